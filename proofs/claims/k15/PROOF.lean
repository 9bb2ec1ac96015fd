import PyProof.Rows.All
import Wide.All
import OpenK.AllK
import Wide.FinOn
import Lean
import PyProof.EqAt
import PyProof.EqKinds
import PyProof.TupleCall
import PyProof.CompUse
import PyProof.P3Eq
import PyProof.NeData
import PyProof.P3In
import PyProof.EnumMake
import PyProof.Draws
import PyProof.ConsumeWalk
import PyProof.Rows.SetFrom
import PyProof.SetRoads
import PyProof.Rows.SortWalk
import PyProof.ListRange
import PyProof.WalksMore
import PySem.Challenge.RW_handnames_k15_whole_corners_of_nets
set_option Elab.async false
set_option linter.all false
set_option maxRecDepth 100000
namespace PySem.W.Fast
def tw6567948259672954244:=0
def tw704434562805473668:=0
def tw9658264865493906682:=0
def tw4434489685581594909:=0
def tw11166630605381967693:=0
def tw4516779368005689001:=0
def tw6879387570406739871:=0
def tw8677362481850669497:=0
def tw16021899714972152624:=0
def tw11060478537229959836:=0
def tw5519712079469112175:=0
def tw2741577801571684053:=0
def tw6839024005290671143:=0
def tw1471608920865814970:=0
def tw7055459921705119626:=0
def tw9826219570111177155:=0
def tw10149270435484111815:=0
def tw9673730494599255828:=0
def tw6591239178746494023:=0
def tw5348746649370262008:=0
def tw9705016567659560483:=0
def tw15113259781175233502:=0
def tw18239700499784330462:=0
def tw13784995618491150510:=0
def tw4138945842973199910:=0
def tw8106447683289758359:=0
def tw17847259326784079705:=0
def tw1184966465361749506:=0
def tw16561010285267079083:=0
def tw5600811005038524624:=0
def tw9359287094556966238:=0
def tw5328062511185546245:=0
def tw11891019059268993842:=0
def tw13869564402456787209:=0
def tw17802300889487461763:=0
def tw13992244291899867666:=0
def tw17023491647435756157:=0
def tw8080048346707244989:=0
def tw1644021320343092241:=0
def tw9127724668474762453:=0
def tw11959173981650034017:=0
def tw4878359761349142979:=0
def tw6473580788228947083:=0
def tw9775122755776627712:=0
def tw12759544850357434727:=0
def tw5353531929537379548:=0
def tw15152602816424192467:=0
def tw1769424691915342185:=0
def tw18256664454048036024:=0
def tw2825260588660675205:=0
def tw7776450018832308368:=0
def tw11561492108866671827:=0
def tw15201616331774718550:=0
def tw4955942597028117087:=0
def tw14647970392225090371:=0
def tw10593489382077883904:=0
def tw5897902438780802490:=0
def tw5874529754785058021:=0
def tw8257221683237254233:=0
def tw17065800049388763546:=0
def tw17589501264324977313:=0
def tw3316591969992632747:=0
def tw17916461123203686872:=0
def tw5230035808143302393:=0
def tw3548301639987136081:=0
def tw7498006690077180485:=0
def tw1238567619528529827:=0
def tw17629191681795706398:=0
def tw8343295924498234241:=0
def tw2622840945961881476:=0
def tw16016655036101003397:=0
def tw14302382523589518244:=0
def tw10608518554189168783:=0
def tw17070774981420507049:=0
def tw15903750755222079648:=0
def tw16746832465774937079:=0
def tw13298115868405252126:=0
def tw4488670313146169888:=0
def tw15779360339551787211:=0
def tw8058712343989652418:=0
def tw7136283095475164096:=0
def tw17711009598914678722:=0
def tw18424280699368490834:=0
def tw13713990977611722308:=0
def tw8597302800840635400:=0
def tw692966947750781621:=0
def tw6918027103384636406:=0
def tw9862403046316203819:=0
def tw796921124036147160:=0
def tw175334821050058941:=0
def tw9824470830813478802:=0
def tw9994651318678657290:=0
def tw10796876611001819793:=0
def tw7789393729660260715:=0
def tw6337426313462406755:=0
def tw13136689733113121179:=0
def tw1280742073558176843:=0
def tw13973327738634200866:=0
def tw8871884273895937758:=0
def tw991510961619722334:=0
def tw17873676963833728883:=0
def tw9271308066388890298:=0
def tw4606803205565387780:=0
def tw4703667320500501090:=0
def tw12925103306303913057:=0
def tw10328049717228039545:=0
def tw1160567533366044228:=0
def tw5810179249593214199:=0
def tw16046097401172374186:=0
def tw12348154657156073567:=0
def tw13465481732111681936:=0
def tw15120534960112906640:=0
def tw6352570380675184062:=0
def tw6829398561140670264:=0
def tw13006730152468004799:=0
def tw1552203999640638596:=0
def tw13180632177470590726:=0
def tw1789505750378805642:=0
def tw11813231966852744814:=0
def tw6676444319287616336:=0
def tw16935385200044814839:=0
def tw7758872622180864201:=0
def tw17451929479542481316:=0
def tw11104296710249214401:=0
def tw5509251219081168525:=0
def tw14626904051010920451:=0
def tw12356307238631882690:=0
def tw2219835769138525240:=0
def tw8360663739518297335:=0
def tw10338082850795471302:=0
def tw15455486613473869841:=0
def tw12060843237480596453:=0
def tw4280404245877921358:=0
def tw18333405530836386220:=0
def tw14687077212316135514:=0
def tw10917915463252999697:=0
def tw8013867306345610905:=0
def tw18436732149502432021:=0
def tw16633731438102493524:=0
def tw16055429966051310448:=0
def tw17244051493868149649:=0
def tw9365042190272119730:=0
def tw4229334698421002645:=0
def tw18212082030833650207:=0
def tw1328198752418849280:=0
def tw16863795414620071415:=0
def tw16319992009651004537:=0
def tw2790682638431380859:=0
def tw5758889135688075192:=0
def tw10747759988679522798:=0
def tw8762728394146957889:=0
def tw9226175567860250526:=0
def tw5441068978987614443:=0
def tw11178441872882755279:=0
def tw3058673341830458972:=0
def tw8349727053513171306:=0
def tw13532986230275725494:=0
def tw4787809670669716468:=0
def tw8475279844492847720:=0
def tw8469025768043017678:=0
def tw4709369235374368397:=0
def tw8098910965541569094:=0
def tw17896291819323709577:=0
def tw4646763570470176013:=0
def tw8758801535223032722:=0
def tw7445259955472294851:=0
def tw14546452494386658072:=0
def tw5600666467417858982:=0
def tw6286084767603057822:=0
def tw8323850771750133840:=0
def tw8526996960117903923:=0
def tw4859700564349111205:=0
def tw14495574825087348040:=0
def tw7103484606378554873:=0
def tw2679860329478285364:=0
def tw13681986613993068642:=0
def tw11493465427579517212:=0
def tw462114209954241598:=0
def tw127710102151180549:=0
def tw8872083908429551433:=0
def tw12396193358188666525:=0
def tw5011199988773158439:=0
def tw18181830464804957677:=0
def tw15463020348248296935:=0
def tw11431181358553140892:=0
def tw18096906653636309143:=0
def tw9423803359258722493:=0
def tw12221126730030216757:=0
def tw151457543423481834:=0
def tw4145437602019849816:=0
def tw14018083468629446512:=0
def tw13298290529007368449:=0
def tw4150374127515308777:=0
def tw13118244530926944395:=0
def tw4925693607804207414:=0
def tw14206597266673658915:=0
def tw10124655935707321469:=0
def tw292328683059733875:=0
def tw16364112009126291916:=0
def tw10142714140455227527:=0
def tw14138591142912398613:=0
def tw6959089408273662980:=0
def tw14549102989704689473:=0
def tw8825233954976027547:=0
def tw11618779460509227017:=0
def tw12509358588625167207:=0
def tw5997844750051738033:=0
def tw11223213897301193207:=0
def tw11893230888011967321:=0
def tw16684639756178284793:=0
def tw15592568138051318248:=0
def tw17797898156440063601:=0
def tw32595850174966177:=0
def tw17362761915914749787:=0
def tw9984216244525505482:=0
def tw10965492230965949266:=0
def tw9008118993693850840:=0
def tw6465007845753280798:=0
def tw7400684979674507870:=0
def tw504721384438823026:=0
def tw17582696353785136154:=0
def tw9226285836093194662:=0
def tw6272005867937677405:=0
def tw4495942724915228068:=0
def tw8220028719430539502:=0
def tw16461840460683890393:=0
def tw2857611403694633657:=0
def tw16337692733063960648:=0
def tw15486325091295711174:=0
def tw4443582224458358888:=0
def tw6557210450960165237:=0
def tw12989400262132083777:=0
def tw17263400128970309636:=0
def tw9278166180853277150:=0
def tw8707484617811532053:=0
def tw11431464378298958441:=0
def tw15929890371064933334:=0
def tw926589887160372254:=0
def tw11949045541042080508:=0
def tw11512198588495486068:=0
def tw9424999812850117233:=0
def tw11952601700386915605:=0
def tw2515432302521031435:=0
def tw13802508022674836176:=0
def tw7473940329650157480:=0
def tw17348835721299629539:=0
def tw1668264544699917300:=0
def tw3941402977158078575:=0
def tw14076489105273806455:=0
def tw3524288617536233200:=0
def tw6876325144046676289:=0
def tw11102142828813288828:=0
def tw10608751855945171240:=0
def tw16377209250252595104:=0
def tw786810118336354687:=0
def tw11813488693274878565:=0
def tw4531852297098899909:=0
def tw8686367800139317092:=0
def tw13297146714360787661:=0
def tw17958842367444966617:=0
def tw7322184852707835199:=0
def tw3050721541139889647:=0
def tw4721602030438381607:=0
def tw3864266269542675718:=0
def tw13385922635282878534:=0
def tw4478645331202934101:=0
def tw14630261944909173877:=0
def tw15880647569731211458:=0
def tw15614100658893947103:=0
def tw877488803141416713:=0
def tw14408138041271767870:=0
def tw9410616224806655210:=0
def tw14683699608906278608:=0
def tw5213849586304723859:=0
def tw2152588913620332528:=0
def tw13888128796450938524:=0
def tw2017228174453435611:=0
def tw10132738941921857268:=0
def tw16500523062285951080:=0
def tw3431221213825714541:=0
def tw13886994459550378948:=0
def tw13198995740055517109:=0
def tw1496922410253314032:=0
def tw3338712116627419293:=0
def tw15780059819065538701:=0
def tw13854898962792833448:=0
def tw11217150640370743937:=0
def tw14519517032177823233:=0
def tw18158694448483751104:=0
def tw929633774416737325:=0
def tw3777149318972903920:=0
def tw14537851602151010398:=0
def tw12462480624919567774:=0
def tw3943849593046295749:=0
def tw5969285927857022916:=0
def tw10125225479757674475:=0
def tw12775603242573901113:=0
def tw17915114377881905001:=0
def tw4608043774990654344:=0
def tw14670728699606756189:=0
def tw13462653228408693648:=0
def tw1431837698765572967:=0
def tw17621252343876966386:=0
def tw18336211245796784294:=0
def tw12354862129143092146:=0
def tw6694195690618179833:=0
def tw14320766621839702083:=0
def tw3010555839244554565:=0
def tw17222793356956503779:=0
def tw14023310273424567024:=0
def tw18191138969346125548:=0
def tw15443605043947889895:=0
def tw10870120996620659087:=0
def tw580760629441786310:=0
def tw9909148269548969852:=0
def tw18240555469444948736:=0
def tw7241257441367863789:=0
def tw13643195094286692972:=0
def tw5653822297746688185:=0
def tw17060242532643888231:=0
def tw16732729655235010838:=0
end PySem.W.Fast
section
set_option maxHeartbeats 200000
namespace L2
open PySem PySem.Spec PyProof.Rows
noncomputable abbrev Key:=Sum Int Str
noncomputable def a2q:Key->Value->Bool
 | .inl k,v=>Value.isInt k v
 | .inr x,v=>Value.isStrOf x v
noncomputable def d1r (w:World):Key->Int
 | .inl k=>hashInt k
 | .inr x=>hashStr w x
theorem m6:∀ {k:Key} {v:Value},a2q k v=true->(∃ i t,k=Sum.inl i/\v=Value.int i t)\/(∃ x t,k=Sum.inr x/\v=Value.str x t)
 | .inl i,v,h=>by
  obtain ⟨t,e⟩:=Value.isInt_shape (k:=i) (v:=v) h
  exact .inl ⟨i,t,rfl,e⟩
 | .inr x,v,h=>by
  obtain ⟨t,e⟩:=Value.isStrOf_shape (x:=x) (v:=v) h
  exact .inr ⟨x,t,rfl,e⟩
theorem b07 (i:Int) (t:Tok):a2q (.inl i) (.int i t)=true:=by simp [a2q,Value.isInt]
theorem b03 (x:Str) (t:Tok):a2q (.inr x) (.str x t)=true:=by simp [a2q,Value.isStrOf]
theorem c5w (a b:Int):decide ((Sum.inl a:Key)=Sum.inl b)=(a==b):=by
 by_cases e:a=b
 ·subst e;simp
 ·have h:¬ (Sum.inl a:Key)=Sum.inl b:=λq=>e (Sum.inl.inj q)
  rw [decide_eq_false h]
  exact (beq_eq_false_iff_ne.mpr e).symm
theorem c3a (a b:Str):decide ((Sum.inr a:Key)=Sum.inr b)=decide (a=b):=by
 by_cases e:a=b
 ·subst e;simp
 ·have h:¬ (Sum.inr a:Key)=Sum.inr b:=λq=>e (Sum.inr.inj q)
  rw [decide_eq_false h,decide_eq_false e]
theorem c2c (a:Int) (b:Str):decide ((Sum.inl a:Key)=Sum.inr b)=false:=decide_eq_false (λq=>nomatch q)
theorem c2i (a:Str) (b:Int):decide ((Sum.inr a:Key)=Sum.inl b)=false:=decide_eq_false (λq=>nomatch q)
noncomputable def j2 (prog:Program) (w:World):PySem.KeyKind prog w Key where
 is:=a2q
 hash:=d1r w
 inj:=λv a b ha hb=>by
  rcases m6 ha with ⟨i,t,rfl,rfl⟩ | ⟨x,t,rfl,rfl⟩
  ·rcases m6 hb with ⟨j,u,rfl,e⟩ | ⟨y,u,rfl,e⟩
   ·injection e with e1 _;rw [e1]
   ·exact nomatch e
  ·rcases m6 hb with ⟨j,u,rfl,e⟩ | ⟨y,u,rfl,e⟩
   ·exact nomatch e
   ·injection e with e1 _;rw [e1]
 byValue:=λk v h=>by
  rcases m6 h with ⟨i,t,rfl,rfl⟩ | ⟨x,t,rfl,rfl⟩ <;> rfl
 pyHash:=λhv h=>by
  rcases m6 hv with ⟨i,t,rfl,rfl⟩ | ⟨x,t,rfl,rfl⟩
  ·exact wpAny_pyHash_int h
  ·exact wpAny_pyHash_str h
 eqBool:=λhu hv h=>by
  rcases m6 hu with ⟨i,t,rfl,rfl⟩ | ⟨x,t,rfl,rfl⟩
  ·rcases m6 hv with ⟨j,u,rfl,rfl⟩ | ⟨y,u,rfl,rfl⟩
   ·rw [c5w] at h;exact wpAny_eqBool_int h
   ·rw [c2c] at h;exact SeqAt.EqAt.int_str i t y u _ _ _ _ h
  ·rcases m6 hv with ⟨j,u,rfl,rfl⟩ | ⟨y,u,rfl,rfl⟩
   ·rw [c2i] at h;exact SeqAt.EqAt.str_int x t j u _ _ _ _ h
   ·rw [c3a] at h;exact wpAny_eqBool_str h
 «strs»:=λk x t v h=>by
  rcases m6 h with ⟨i,u,rfl,e⟩ | ⟨y,u,rfl,e⟩
  ·exact nomatch e
  ·injection e with e1 _
   subst e1
   cases v <;> rfl
theorem a4o (prog:Program) (w:World) (i:Int) (t:Tok):(j2 prog w).is (.inl i) (.int i t)=true:=b07 i t
theorem a4y (prog:Program) (w:World) (x:Str) (t:Tok):(j2 prog w).is (.inr x) (.str x t)=true:=b03 x t
end L2
namespace L2
open PySem PySem.Spec PyProof.Rows
inductive V where
 | non | bl (b:Bool) | int (i:Int) | str (x:Str) | byt (b:Array UInt8) | flt (b:UInt64) | ref (a:Addr) | ty (n:String)
 deriving DecidableEq
noncomputable def RelV:V->Value->Prop
 | .non,u=>u=Value.none
 | .bl b,u=>u=Value.bool b
 | .int i,u=>∃ t,u=Value.int i t
 | .str x,u=>∃ t,u=Value.str x t
 | .byt b,u=>∃ t,u=Value.bytes b t
 | .flt b,u=>∃ t,u=Value.float b t
 | .ref a,u=>u=Value.ref a
 | .ty n,u=>u=Value.type n
noncomputable abbrev Vals:List V->List Value->Prop:=Paired RelV
theorem Vals.length {xs:List V} {us:List Value} (r:Vals xs us):xs.length=us.length:=Paired.length r
theorem Vals.get:∀ {xs:List V} {us:List Value} {i:Nat} {x:V},Vals xs us->xs[i]?=some x->∃ u,us[i]?=some u/\RelV x u
 | _,_,_,_,.nil,e=>by simp at e
 | _,_,0,_,.cons r _,e=>by simp at e;subst e;exact ⟨_,rfl,r⟩
 | _,_,i+1,x,.cons _ t,e=>by
  obtain ⟨u,h1,h2⟩:=Vals.get (i:=i) (x:=x) t (by simpa using e)
  exact ⟨u,by simpa using h1,h2⟩
theorem Vals.set {x:V} {u:Value} (r:RelV x u):∀ {xs:List V} {us:List Value} (i:Nat),Vals xs us->Vals (xs.set i x) (us.set i u)
 | _,_,_,.nil=>.nil
 | _,_,0,.cons _ t=>.cons r t
 | _,_,i+1,.cons q t=>.cons q (Vals.set r i t)
theorem Vals.append:∀ {xs ys:List V} {us ws:List Value},Vals xs us->Vals ys ws->Vals (xs++ys) (us++ws)
 | _,_,_,_,.nil,s=>s
 | _,_,_,_,.cons r t,s=>.cons r (Vals.append t s)
theorem Vals.take:∀ {xs:List V} {us:List Value} (n:Nat),Vals xs us->Vals (xs.take n) (us.take n)
 | _,_,0,_=>.nil
 | _,_,_+1,.nil=>.nil
 | _,_,n+1,.cons r t=>.cons r (Vals.take n t)
theorem Vals.drop:∀ {xs:List V} {us:List Value} (n:Nat),Vals xs us->Vals (xs.drop n) (us.drop n)
 | _,_,0,r=>r
 | _,_,_+1,.nil=>.nil
 | _,_,n+1,.cons _ t=>Vals.drop n t
noncomputable def RelO:Option V->Option Value->Prop
 | some v,some u=>RelV v u
 | none,none=>True
 | _,_=>False
noncomputable def KV {κ:Type}:List (κ×V)->List (κ×Value)->Prop:=Paired λ(p:κ×V) (q:κ×Value)=>p.1=q.1/\RelV p.2 q.2
noncomputable def kV:Key->V
 | .inl i=>.int i
 | .inr x=>.str x
inductive HO where
 | lst (xs:List V)
 | tup (xs:List V)
 | dK (kvs:List (Key×V)) | dT (kvs:List (List Key×V))
 | set (S:Int->Bool) (n:Nat)
 | ins (C dx:Addr) (fs:List (Str×V))
 | own (x:Addr)
 | xd (fs:List (Str×V))
 | met (f x:Addr)
 | rng (lo hi:Int)
 | frz (o:Obj) (u:HO)
 | tbl (ps:Array Value)
 | ext (φ:Heap->Prop)
noncomputable abbrev Hp:=Addr->Option HO
noncomputable def upd (H:Hp) (a:Addr) (o:HO):Hp:=λb=>if b=a then some o else H b
theorem d4 {H:Hp} {a:Addr} {o:HO}:upd H a o a=some o:=by unfold upd;rw [if_pos rfl]
theorem b9 {H:Hp} {a b:Addr} {o:HO} (h:b≠a):upd H a o b=H b:=by unfold upd;rw [if_neg h]
theorem b4z {H:Hp} {a b:Addr} {o u:HO} (h:H a=some o) (h':H b=some u) (d:o≠u):a≠b:=by
 intro e;subst e;rw [h] at h';exact d (Option.some.inj h')
theorem d8 {H:Hp} {a b:Addr} {o:HO} (h:H a=some o) (h':H b=none):a≠b:=by
 intro e;subst e;rw [h] at h';cases h'
noncomputable def TupN (h:Heap) (a:Addr) (items:Array Value):Prop:=∃ o,h.get? a=some o/\o.cls=.type "tuple"/\∃ n,o.data=.seq items n/\o.dict=none
theorem TupN.is {h:Heap} {a:Addr} {items:Array Value} (x:TupN h a items):IsTup h a items:=let ⟨o,e,c,n,d,_⟩:=x;⟨o,e,c,n,d⟩
theorem TupN.new (h:Heap) (items:Array Value):TupN (h.push { cls:=.type "tuple",data:=.seq items }) h.objs.size items:=⟨_,Heap.get?_push_size _ rfl,rfl,_,rfl,rfl⟩
section
variable (P:Program) (w:World)
noncomputable def ObjOk (H:Hp) (h:Heap) (a:Addr):HO->Prop
 | .lst xs=>xs.length<=sizeLine/\∃ (its:List Value) (n:Nat),Vals xs its/\h.get? a=some { cls:=.type "list",data:=.seq its.toArray n }
 | .tup xs=>xs.length<=sizeLine/\∃ its:List Value,Vals xs its/\TupN h a its.toArray
 | .dK kvs=>kvs.length<=sizeLine/\(a==sysModules)=false/\∃ vs,KV kvs vs/\h.DictOf (j2 P w) a vs
 | .dT kvs=>kvs.length<=sizeLine/\(a==sysModules)=false/\∃ xs:List (List Key×Addr×Value),
   Paired (λ(p:List Key×V) (q:List Key×Addr×Value)=>p.1=q.1/\H q.2.1=some (.tup (p.1.map kV))/\RelV p.2 q.2.2) kvs xs /\
   ∃ o es ep,h.get? a=some o/\o.ExactDict/\o.data=.dict es ep/\es.toList=xs.map (entryOfKey (tupleKind (j2 P w)))/\(xs.map (·.1)).Nodup
 | .set S n=>h.SetOf (intKind P w) a S n
 | .ins C dx fs=>H dx=some (.own a)/\fs.length<=1000/\dx≠a/\h.get? a=some (PySem.W.instObj C dx) /\
   ∃ mA,h.Ns1 dx mA/\(∀ f,RelO (fs.lookup f) (mA f))/\PySem.Within mA (fs.map (·.1))
 | .own _=>∃ o,h.get? a=some o
 | .xd fs=>∃ mA,h.Ns1 a mA/\∀ f,RelO (fs.lookup f) (mA f)
 | .rng lo hi=>∃ t u v,h.get? a=some { cls:=.type "range",data:=.fields #[.int lo t,.int hi u,.int 1 v] }
 | .frz o u=>h.get? a=some o/\ObjOk H h a u
 | .tbl ps=>h.get? a=some { cls:=.none,data:=.fields ps }
 | .met f x=>h.get? a=some (PySem.W.methodObj (.ref f) (.ref x))
 | .ext φ=>φ h/\(∃ o,h.get? a=some o)/\∀ h1 h2:Heap,φ h1->(∀ o,h1.get? a=some o->h2.get? a=some o)->φ h2
noncomputable def HOk (H:Hp) (h:Heap):Prop:=∀ a o,H a=some o->ObjOk P w H h a o
end
section
variable {P:Program} {w:World} {H H':Hp} {h h':Heap} {a:Addr} {o:HO}
theorem ObjOk.lt (x:ObjOk P w H h a o):a<h.objs.size:=by
 cases o with
 | lst xs=>obtain ⟨_,_,_,_,e⟩:=x;exact Heap.lt_size e
 | tup xs=>obtain ⟨_,_,_,p⟩:=x;exact p.is.lt
 | dK kvs=>obtain ⟨_,_,_,_,o,_,_,e,_⟩:=x;exact Heap.lt_size e
 | dT kvs=>obtain ⟨_,_,_,_,o,_,_,e,_⟩:=x;exact Heap.lt_size e
 | set S n=>obtain ⟨o,_,_,_,e,_⟩:=x;exact Heap.lt_size e
 | ins C dx fs=>obtain ⟨_,_,_,e,_⟩:=x;exact Heap.lt_size e
 | own y=>obtain ⟨_,e⟩:=x;exact Heap.lt_size e
 | xd fs=>obtain ⟨_,⟨_,_,_,e,_⟩,_⟩:=x;exact Heap.lt_size e
 | rng lo hi=>obtain ⟨_,_,_,e⟩:=x;exact Heap.lt_size e
 | frz ob u=>obtain ⟨e,_⟩:=x;exact Heap.lt_size e
 | tbl ps=>exact Heap.lt_size (show h.get? a=some _ from x)
 | met f y=>exact Heap.lt_size (show h.get? a=some _ from x)
 | ext φ=>obtain ⟨_,⟨_,e⟩,_⟩:=x;exact Heap.lt_size e
theorem Paired.mapP {α β:Type} {F G:α->β->Prop}:∀ {l₁:List α} {l₂:List β},Paired F l₁ l₂->(∀ a b,F a b->G a b)->Paired G l₁ l₂
 | _,_,.nil,_=>.nil
 | _,_,.cons r t,f=>.cons (f _ _ r) (Paired.mapP t f)
theorem ObjOk.stay (x:ObjOk P w H h a o) (k:∀ b u,(b=a\/H b=some (.own a))->h.get? b=some u->h'.get? b=some u)
  (ho:∀ b,H b=some (.own a)->H' b=some (.own a)) (ht:∀ b xs,H b=some (.tup xs)->H' b=some (.tup xs)):ObjOk P w H' h' a o:=by
 induction o with
 | lst xs=>obtain ⟨z,its,n,r,e⟩:=x;exact ⟨z,its,n,r,k _ _ (.inl rfl) e⟩
 | tup xs=>obtain ⟨z,its,r,ob,e,c⟩:=x;exact ⟨z,its,r,ob,k _ _ (.inl rfl) e,c⟩
 | dK kvs=>obtain ⟨z,y,vs,r,ob,es,ep,e,c⟩:=x;exact ⟨z,y,vs,r,ob,es,ep,k _ _ (.inl rfl) e,c⟩
 | dT kvs=>
  obtain ⟨z,y,xs,r,ob,es,ep,e,c⟩:=x
  exact ⟨z,y,xs,Paired.mapP r λp q z=>⟨z.1,ht _ _ z.2.1,z.2.2⟩,ob,es,ep,k _ _ (.inl rfl) e,c⟩
 | set S n=>obtain ⟨ob,es,ep,t,e,c⟩:=x;exact ⟨ob,es,ep,t,k _ _ (.inl rfl) e,c⟩
 | ins C dx fs=>
  obtain ⟨d,z,ne,e,mA,⟨od,es,ep,e2,c⟩,r⟩:=x
  exact ⟨ho _ d,z,ne,k _ _ (.inl rfl) e,mA,⟨od,es,ep,k _ _ (.inr d) e2,c⟩,r⟩
 | own y=>obtain ⟨ob,e⟩:=x;exact ⟨ob,k _ _ (.inl rfl) e⟩
 | xd fs=>obtain ⟨mA,⟨od,es,ep,e,c⟩,r⟩:=x;exact ⟨mA,⟨od,es,ep,k _ _ (.inl rfl) e,c⟩,r⟩
 | rng lo hi=>obtain ⟨t,u,v,e⟩:=x;exact ⟨t,u,v,k _ _ (.inl rfl) e⟩
 | frz ob u ih=>obtain ⟨e,q⟩:=x;exact ⟨k _ _ (.inl rfl) e,ih q⟩
 | tbl ps=>
  have e:h.get? a=some { cls:=.none,data:=.fields ps }:=x
  show h'.get? a=some { cls:=.none,data:=.fields ps }
  exact k a _ (.inl rfl) e
 | met f y=>
  have e:h.get? a=some (PySem.W.methodObj (.ref f) (.ref y)):=x
  show h'.get? a=some (PySem.W.methodObj (.ref f) (.ref y))
  exact k a _ (.inl rfl) e
 | ext φ=>obtain ⟨p,⟨o,e⟩,st⟩:=x;exact ⟨st _ _ p λo q=>k _ _ (.inl rfl) q,⟨o,k _ _ (.inl rfl) e⟩,st⟩
theorem HOk.lt (x:HOk P w H h) (e:H a=some o):a<h.objs.size:=(x a o e).lt
theorem HOk.fresh (x:HOk P w H h) (e:h.objs.size<=a):H a=none:=by
 cases q:H a with
 | none=>rfl
 | some u=>exact absurd (Nat.lt_of_lt_of_le (x.lt q) e) (Nat.lt_irrefl _)
theorem HOk.kept (x:HOk P w H h) (k:∀ b u,h.get? b=some u->h'.get? b=some u):HOk P w H h':=λa o e=>
 (x a o e).stay (λb u _ q=>k b u q) (λ_ q=>q) λ_ _ q=>q
theorem HOk.laid (x:HOk P w H h) (k:∀ b u,h.get? b=some u->h'.get? b=some u) (hp:h.objs.size<=a) (new:ObjOk P w (upd H a o) h' a o):HOk P w (upd H a o) h':=λb u e=>by
 have hn:=x.fresh hp
 by_cases hb:b=a
 ·subst hb;rw [d4] at e;cases e;exact new
 ·rw [b9 hb] at e
  exact (x b u e).stay (λc v _ q=>k c v q) (λc q=>by rw [b9 (d8 q hn)];exact q) λc xs q=>by rw [b9 (d8 q hn)];exact q
end
noncomputable def Rd (H:Hp) (a:Addr) (u:HO):Prop:=H a=some u\/∃ o,H a=some (.frz o u)
theorem Rd.ok {P:Program} {w:World} {H:Hp} {h:Heap} {a:Addr} {u:HO} (r:Rd H a u) (x:HOk P w H h):ObjOk P w H h a u:=by
 rcases r with r | ⟨o,r⟩
 ·exact x a u r
 ·obtain ⟨_,q⟩:=x a _ r
  exact q
noncomputable def Mut:Option HO->Prop
 | some (.lst _)=>True
 | some (.dK _)=>True
 | some (.dT _)=>True
 | some (.set _ _)=>True
 | some (.ins _ _ _)=>True
 | some (.ext _)=>True
 | _=>False
section
variable {P:Program} {w:World} {H:Hp} {h h':Heap} {x e:Addr} {o':HO}
theorem HOk.write (ok:HOk P w H h) (mu:Mut (H x)) (he:e=x\/H e=some (.own x)) (k:∀ b u,b≠e->h.get? b=some u->h'.get? b=some u) (heo:∃ u,h'.get? e=some u)
  (new:ObjOk P w (upd H x o') h' x o'):HOk P w (upd H x o') h':=λb u q=>by
 have nown:∀ c y,H c=some (.own y)->c≠x:=λc y r z=>by subst z;rw [r] at mu;exact mu
 have ntup:∀ c xs,H c=some (.tup xs)->c≠x:=λc xs r z=>by subst z;rw [r] at mu;exact mu
 by_cases hb:b=x
 ·subst hb;rw [d4] at q;cases q;exact new
 ·rw [b9 hb] at q
  by_cases hbe:b=e
  ·have q':H b=some (.own x):=by
    rcases he with z | z
    ·exact absurd (hbe.trans z) hb
    ·rw [hbe];exact z
   rw [q] at q';cases q'
   obtain ⟨v,hv⟩:=heo
   exact ⟨v,by rw [hbe];exact hv⟩
  ·refine (ok b u q).stay (λc v hc r=>k c v ?_ r) (λc r=>by rw [b9 (nown c b r)];exact r) λc xs r=>by rw [b9 (ntup c xs r)];exact r
   rcases hc with rfl | hc
   ·exact hbe
   ·rintro rfl
    rcases he with z | z
    ·exact nown c b hc z
    ·rw [hc] at z;cases z;exact hb rfl
end
structure Un (fs ex:List Addr) (H H':Hp) (h h':Heap):Prop where
 keep:∀ b o,h.get? b=some o->H b=none->b∉fs->b∉ex->h'.get? b=some o
 slot:∀ b o,h.get? b=some o->H b=none->b∈fs->b∉ex->∃ sl,h'.get? b=some { o with slots:=sl }
 free:∀ b o,h.get? b=some o->H b=none->b∉ex->H' b=none
 there:∀ b o,h.get? b=some o->b∉ex->∃ o',h'.get? b=some o'
 tups:∀ b xs,H b=some (.tup xs)->H' b=some (.tup xs)
 frzs:∀ b o u,H b=some (.frz o u)->H' b=some (.frz o u)
 tbls:∀ b ps,H b=some (.tbl ps)->∃ more,H' b=some (.tbl (ps++more))
section
variable {fs fs' ex ex':List Addr} {H H1 H2:Hp} {h h1 h2 h':Heap} {a x e:Addr} {o:HO}
theorem Un.any (u:Un fs ex H H1 h h1) {b:Addr} {ob:Obj} (q:h.get? b=some ob) (n:H b=none) (hx:b∉ex):∃ sl,h1.get? b=some { ob with slots:=sl }:=by
 by_cases hb:b∈fs
 ·exact u.slot b ob q n hb hx
 ·exact ⟨ob.slots,u.keep b ob q n hb hx⟩
theorem Un.kept (k:∀ b u,h.get? b=some u->h'.get? b=some u):Un fs ex H H h h':=
 ⟨λb ob q _ _ _=>k b ob q,λb ob q _ _ _=>⟨ob.slots,k b ob q⟩,λ_ _ _ n _=>n,λb ob q _=>⟨ob,k b ob q⟩,λ_ _ q=>q,λ_ _ _ q=>q,λ_ ps q=>⟨#[],by rw [q];simp⟩⟩
theorem Un.refl:Un fs ex H H h h:=Un.kept λ_ _ q=>q
theorem Un.laid (k:∀ b u,h.get? b=some u->h'.get? b=some u) (hp:h.objs.size<=a) (hn:H a=none):Un fs ex H (upd H a o) h h' where
 keep:=λb u q _ _ _=>k b u q
 slot:=λb u q _ _ _=>⟨u.slots,k b u q⟩
 free:=λb u q n _=>by rw [b9 (Nat.ne_of_lt (Nat.lt_of_lt_of_le (Heap.lt_size q) hp))];exact n
 there:=λb u q _=>⟨u,k b u q⟩
 tups:=λb xs q=>by rw [b9 (d8 q hn)];exact q
 frzs:=λb u xs q=>by rw [b9 (d8 q hn)];exact q
 tbls:=λb ps q=>⟨#[],by rw [b9 (d8 q hn),q];simp⟩
theorem Un.write (mu:Mut (H x)) (he:e=x\/H e=some (.own x)) (k:∀ b u,b≠e->h.get? b=some u->h'.get? b=some u) (heo:∃ u,h'.get? e=some u):Un fs ex H (upd H x o) h h':=by
 have hx:∀ b,H b=none->b≠x:=λb n z=>by subst z;rw [n] at mu;exact mu
 have hb:∀ b,H b=none->b≠e:=λb n z=>by
  subst z
  rcases he with r | r
  ·exact hx b n r
  ·rw [n] at r;cases r
 have hm:∀ b u,H b=some u->¬ Mut (some u)->b≠x:=λb u q nm z=>by subst z;rw [q] at mu;exact nm mu
 refine ⟨λb u q n _ _=>k b u (hb b n) q,λb u q n _ _=>⟨u.slots,k b u (hb b n) q⟩,λb u q n _=>by rw [b9 (hx b n)];exact n,λb u q _=>?_,
  λb xs q=>by rw [b9 (hm b _ q λz=>z)];exact q,λb u xs q=>by rw [b9 (hm b _ q λz=>z)];exact q,λb ps q=>⟨#[],by rw [b9 (hm b _ q λz=>z),q];simp⟩⟩
 by_cases hbe:b=e
 ·subst hbe;exact heo
 ·exact ⟨u,k b u hbe q⟩
end
noncomputable def trk (h:Heap) (H:Hp):List Addr:=(List.range h.objs.size).filter λa=>(H a).isSome
noncomputable def a21 (h:Heap) (H:Hp):Heap:=PySem.W.hideAll h (trk h H)
theorem a97 (h:Heap) (H:Hp):(a21 h H).objs.size=h.objs.size:=PySem.W.hideAll_size _ _
theorem b16 {h:Heap} {H:Hp} {b:Addr} {o:Obj} (e:h.get? b=some o) (n:H b=none):(a21 h H).get? b=some o:=
 PySem.W.hideAll_get _ e λhm=>by
  have q:(H b).isSome=true:=(List.mem_filter.mp hm).2
  rw [n] at q;simp at q
theorem b82 {h:Heap} {H:Hp} {b:Addr} {o:Obj} (e:(a21 h H).get? b=some o):h.get? b=some o/\H b=none:=by
 have e':h.get? b=some o:=PySem.W.of_hideAll (trk h H) e
 refine ⟨e',?_⟩
 cases q:H b with
 | none=>rfl
 | some x=>
  have hm:b∈trk h H:=List.mem_filter.mpr ⟨List.mem_range.mpr (Heap.lt_size e'),by simp [q]⟩
  have z:(a21 h H).get? b=none:=PySem.W.hideAll_none (trk h H) hm
  rw [z] at e;cases e
end L2
namespace L2
open PySem PySem.Spec PyProof.Rows
structure Mod (K:PySem.W.Frag) (mg:Str->Option Value) (base:Heap):Prop where
 kin:K.In base
 glob:base.Ns mainGlobals mg
 blt:∃ mb,base.Ns builtinsNs mb/\∀ x:Str,x ≠ "__name__"->mb x=bootBuiltins x
 nolimit:base.NoLimit
structure Cx where
 prog:Program
 w:World
 K:PySem.W.Frag
 mg:Str->Option Value
 base:Heap
 A:Around
 N:List Str
 s₀:Shared
 H₀:Hp
 env:Env
 outer:List Env
 stack:List Env
 ex:List Addr
 fn:Str->Bool
 calm:Bool
 pn:List (Addr×Obj)
 xe:Value->Shared->Prop
noncomputable def frs (l:List Env):List Addr:=l.filterMap (·.frame)
noncomputable abbrev Cx.fs (X:Cx):List Addr:=frs X.outer
noncomputable def Vis (sc:Scope) (x:Str):Prop:=sc.names.lookup x=some .local\/sc.names.lookup x=some .cell\/sc.names.lookup x=some .free
noncomputable def Loc (sc:Scope) (x:Str):Prop:=sc.names.lookup x=some .local\/sc.names.lookup x=some .cell
noncomputable def d1s (env:Env) (h:Heap) (m:Str->Option Value) (x:Str) (u:Value):Prop:=
 (env.kindOf x=some .local/\m x=some u)\/((env.kindOf x=some .cell\/env.kindOf x=some .free)/\∃ c,env.cells.lookup x=some c/\h.IsCell c (some u))
structure Cx.Ok (X:Cx):Prop where
 mod:Mod X.K X.mg X.base
 kind:X.env.scope.kind=.function
 glob:X.env.globals=mainGlobals
 blt:X.env.builtins=builtinsNs
 above:X.s₀.heap.objs.size<=X.env.locals
 inj:∀ x y c,X.env.cells.lookup x=some c->X.env.cells.lookup y=some c->x=y
 has:∀ x,(X.env.kindOf x=some .cell\/X.env.kindOf x=some .free)->∃ c,X.env.cells.lookup x=some c
 cab:∀ x c,X.fn x=true->X.env.cells.lookup x=some c->X.s₀.heap.objs.size<=c
 hd:X.calm=true->X.A.handled=none
 frames:X.A.frames=some X.stack
 stk:X.stack=X.outer\/(X.stack=X.env :: X.outer/\X.env.frame=some X.env.locals)
 exf:∀ b∈X.ex,b≠X.env.locals/\∀ x c,X.env.cells.lookup x=some c->c≠b
 bs:∀ b o,X.base.get? b=some o->X.s₀.heap.get? b=some o/\X.H₀ b=none
 bsz:X.base.objs.size<=X.s₀.heap.objs.size
 noex:∀ b o,X.base.get? b=some o->b∉X.ex
 exfs:∀ b∈X.ex,b∉X.fs
 funs:X.s₀.heap.FunFrames X.base X.outer
 frf:∀ b∈X.fs,X.H₀ b=none
structure Inv (X:Cx) (pins:List (Addr×Obj)) (σ:List (Option V)) (H:Hp) (s:Shared):Prop where
 ok:X.Ok
 os:s.os=X.s₀.os
 bare:AllBare s.gens
 base:Un X.fs X.ex X.H₀ H X.s₀.heap s.heap
 loc:∃ m,s.heap.Ns X.env.locals m/\∀ (i:Nat) (x:Str) (v:V),X.N[i]?=some x->σ[i]?=some (some v)->Vis X.env.scope x->∃ u,RelV v u/\d1s X.env s.heap m x u
 cell:∀ x c,X.env.cells.lookup x=some c->∃ v,s.heap.IsCell c v
 free:H X.env.locals=none
 freeC:∀ x c,X.env.cells.lookup x=some c->H c=none
 pin:∀ p∈X.pn++pins,s.heap.get? p.1=some p.2/\H p.1=none/\p.1≠X.env.locals/\p.1∉X.fs/\∀ v,p.2.data≠.cell v
 hok:HOk X.prog X.w H s.heap
 len:σ.length=X.N.length
section
variable {X:Cx} {pins:List (Addr×Obj)} {σ:List (Option V)} {H H':Hp} {s:Shared} {h':Heap}
theorem Cx.Ok.nofr (ok:X.Ok) {b:Addr} {o:Obj} (e:X.base.get? b=some o):b∉X.fs:=λhb=>by
 have:=(ok.funs.mem hb).1
 rw [e] at this;cases this
theorem Inv.bs (I:Inv X pins σ H s):∀ b o,X.base.get? b=some o->s.heap.get? b=some o/\H b=none:=λb o e=>
 ⟨I.base.keep b o (I.ok.bs b o e).1 (I.ok.bs b o e).2 (I.ok.nofr e) (I.ok.noex b o e),I.base.free b o (I.ok.bs b o e).1 (I.ok.bs b o e).2 (I.ok.noex b o e)⟩
theorem Inv.bk (I:Inv X pins σ H s):∀ b o,X.base.get? b=some o->s.heap.get? b=some o:=λb o e=>(I.bs b o e).1
theorem Inv.mod (I:Inv X pins σ H s):Mod X.K X.mg X.base:=I.ok.mod
theorem Inv.kIn (I:Inv X pins σ H s):X.K.In s.heap:=I.ok.mod.kin.keeps I.bk
theorem Inv.fr (I:Inv X pins σ H s):∃ m,Fr X.base X.env.locals s.heap m:=
 let ⟨m,hn,_⟩:=I.loc
 ⟨m,hn,I.bk,Nat.le_trans I.ok.bsz I.ok.above⟩
theorem Inv.lt (I:Inv X pins σ H s):X.env.locals<s.heap.objs.size:=let ⟨_,hn,_⟩:=I.loc;hn.lt
theorem Inv.sz (I:Inv X pins σ H s):X.s₀.heap.objs.size<=s.heap.objs.size:=Nat.le_trans I.ok.above (Nat.le_of_lt I.lt)
theorem Inv.nofs (I:Inv X pins σ H s) {a:Addr} (h:s.heap.objs.size<=a):a∉X.fs:=λhb=>by
 obtain ⟨_,o,ho,_⟩:=I.ok.funs.mem hb
 exact absurd (Nat.lt_of_lt_of_le (Heap.lt_size ho) (Nat.le_trans I.sz h)) (Nat.lt_irrefl _)
theorem Inv.cne (I:Inv X pins σ H s):∀ x c,X.env.cells.lookup x=some c->c≠X.env.locals:=λx c e z=>by
 obtain ⟨v,o,ho,hd⟩:=I.cell x c e
 obtain ⟨m,⟨o',es,ep,ho',hd',_⟩,_⟩:=I.loc
 rw [z,ho'] at ho;cases ho;rw [hd'] at hd;cases hd
theorem Inv.funs (I:Inv X pins σ H s):s.heap.FunFrames X.base X.outer:=by
 have all:∀ (l:List Env),(∀ b∈frs l,b∈X.fs)->X.s₀.heap.FunFrames X.base l->s.heap.FunFrames X.base l:=by
  intro l
  induction l with
  | nil=>intro _ _;trivial
  | cons env r ih=>
   intro hs hl
   obtain ⟨hk,⟨L,o,hf,hn,ho,hd⟩,hr⟩:=hl
   have hL:L∈X.fs:=hs L (by unfold frs;rw [List.filterMap_cons,hf];exact List.mem_cons_self)
   obtain ⟨sl,e⟩:=I.base.slot L o ho (I.ok.frf L hL) hL λz=>I.ok.exfs L z hL
   exact ⟨hk,⟨L,_,hf,hn,e,hd⟩,ih (λb hb=>hs b (by unfold frs;rw [List.filterMap_cons,hf];exact List.mem_cons_of_mem _ hb)) hr⟩
 exact all X.outer (λ_ hb=>hb) I.ok.funs
theorem Inv.stack (I:Inv X pins σ H s):s.heap.FunFrames X.base X.stack:=by
 rcases I.ok.stk with e | ⟨e,hf⟩
 ·rw [e];exact I.funs
 ·rw [e]
  obtain ⟨m,hn,_⟩:=I.loc
  refine .cons (by rw [I.ok.kind];decide) hf hn ?_ I.funs
  exact Heap.get?_none_of_le (Nat.le_trans I.ok.bsz I.ok.above)
theorem Inv.stkSub (I:Inv X pins σ H s):∀ b∈frs X.stack,b∈X.env.locals :: X.fs:=λb hb=>by
 rcases I.ok.stk with e | ⟨e,hf⟩
 ·rw [e] at hb;exact List.mem_cons_of_mem _ hb
 ·rw [e] at hb
  unfold frs at hb
  rw [List.filterMap_cons,hf] at hb
  exact hb
theorem Inv.stkFree (I:Inv X pins σ H s):∀ b∈frs X.stack,H b=none:=λb hb=>by
 rcases List.mem_cons.mp (I.stkSub b hb) with e | hb
 ·rw [e];exact I.free
 ·obtain ⟨_,o,ho,_⟩:=I.ok.funs.mem hb
  exact I.base.free b o ho (I.ok.frf b hb) λz=>I.ok.exfs b z hb
theorem Inv.step {g':Array GenState} {t':Nat} {d':Drawn} {ch:List Addr} (I:Inv X pins σ H s)
  (hch:∀ b∈ch,(b∈X.ex\/X.s₀.heap.objs.size<=b)/\b≠X.env.locals/\(∀ x c,X.env.cells.lookup x=some c->c≠b)/\∀ p∈X.pn++pins,p.1≠b)
  (keep:∀ b o,b≠X.env.locals->b∉X.fs->b∉ch->s.heap.get? b=some o->H b=none->h'.get? b=some o)
  (slot:∀ b o,b≠X.env.locals->b∈X.fs->b∉ch->s.heap.get? b=some o->H b=none->∃ sl,h'.get? b=some { o with slots:=sl }) (free:∀ b o,b∉ch->s.heap.get? b=some o->H b=none->H' b=none)
  (there:∀ b o,b∉ch->s.heap.get? b=some o->∃ o',h'.get? b=some o')
  (tups:∀ b xs,H b=some (.tup xs)->H' b=some (.tup xs)) (frzs:∀ b o u,H b=some (.frz o u)->H' b=some (.frz o u)) (tbls:∀ b ps,H b=some (.tbl ps)->∃ more,H' b=some (.tbl (ps++more)))
  (ns:∀ m,s.heap.Ns X.env.locals m->h'.Ns X.env.locals m) (hok:HOk X.prog X.w H' h') (hg:AllBare g') :
  Inv X pins σ H' { s with heap:=h',gens:=g',drawn:=d',toks:=t' }:=by
 have neL:∀ b o,X.s₀.heap.get? b=some o->b≠X.env.locals:=λb o e=>Nat.ne_of_lt (Nat.lt_of_lt_of_le (Heap.lt_size e) I.ok.above)
 have neC:∀ b o,X.s₀.heap.get? b=some o->b∉X.ex->b∉ch:=λb o e hx hb=>by
  rcases (hch b hb).1 with z | z
  ·exact hx z
  ·exact absurd (Nat.lt_of_lt_of_le (Heap.lt_size e) z) (Nat.lt_irrefl _)
 have cellK:∀ x c,X.env.cells.lookup x=some c->∀ v,s.heap.IsCell c v->h'.IsCell c v:=λx c e v ⟨o,ho,hd⟩=>by
  have nch:c∉ch:=λz=>(hch c z).2.2.1 x c e rfl
  by_cases hc:c∈X.fs
  ·obtain ⟨sl,q⟩:=slot c o (I.cne x c e) hc nch ho (I.freeC x c e)
   exact ⟨_,q,hd⟩
  ·exact ⟨o,keep c o (I.cne x c e) hc nch ho (I.freeC x c e),hd⟩
 refine ⟨I.ok,I.os,hg,⟨λb o e n hb hx=>?_,λb o e n hb hx=>?_,λb o e n hx=>?_,λb o e hx=>?_,λb xs e=>tups b xs (I.base.tups b xs e),λb o xs e=>frzs b o xs (I.base.frzs b o xs e),λb ps e=>?_⟩,?_,λx c e=>?_,?_,λx c e=>?_,λp hp=>?_,hok,I.len⟩
 ·exact keep b o (neL b o e) hb (neC b o e hx) (I.base.keep b o e n hb hx) (I.base.free b o e n hx)
 ·obtain ⟨sl,e1⟩:=I.base.slot b o e n hb hx
  obtain ⟨sl',e2⟩:=slot b _ (neL b o e) hb (neC b o e hx) e1 (I.base.free b o e n hx)
  exact ⟨sl',e2⟩
 ·obtain ⟨o',e1⟩:=I.base.there b o e hx
  exact free b o' (neC b o e hx) e1 (I.base.free b o e n hx)
 ·obtain ⟨o',e1⟩:=I.base.there b o e hx
  exact there b o' (neC b o e hx) e1
 ·obtain ⟨m1,e1⟩:=I.base.tbls b ps e
  obtain ⟨m2,e2⟩:=tbls b _ e1
  exact ⟨m1++m2,by rw [e2,Array.append_assoc]⟩
 ·obtain ⟨m,hn,hl⟩:=I.loc
  refine ⟨m,ns m hn,λi x v e1 e2 e3=>?_⟩
  obtain ⟨u,r,l⟩:=hl i x v e1 e2 e3
  refine ⟨u,r,?_⟩
  rcases l with l | ⟨k,c,e,z⟩
  ·exact .inl l
  ·exact .inr ⟨k,c,e,cellK x c e _ z⟩
 ·obtain ⟨v,z⟩:=I.cell x c e
  exact ⟨v,cellK x c e v z⟩
 ·obtain ⟨m,⟨o,_,_,ho,_⟩,_⟩:=I.loc
  exact free _ o (λz=>(hch _ z).2.1 rfl) ho I.free
 ·obtain ⟨v,o,ho,hd⟩:=I.cell x c e
  exact free c o (λz=>(hch c z).2.2.1 x c e rfl) ho (I.freeC x c e)
 ·obtain ⟨e,n,ne,nf,d⟩:=I.pin p hp
  have nch:p.1∉ch:=λz=>(hch p.1 z).2.2.2 p hp rfl
  exact ⟨keep p.1 p.2 ne nf nch e n,free p.1 p.2 nch e n,ne,nf,d⟩
theorem Inv.un {t':Nat} (I:Inv X pins σ H s) (u:Un X.fs [] H H' s.heap h') (hok:HOk X.prog X.w H' h'):Inv X pins σ H' { s with heap:=h',toks:=t' }:=by
 obtain ⟨m,⟨o,es,ep,ho,r⟩,_⟩:=id I.loc
 obtain ⟨sl,hL⟩:=u.any ho I.free (by simp)
 exact I.step (g':=s.gens) (d':=s.drawn) (ch:=[]) (λ_ z=>nomatch z) (λb o _ hb _ e n=>u.keep b o e n hb (by simp)) (λb o _ hb _ e n=>u.slot b o e n hb (by simp)) (λb o _ e n=>u.free b o e n (by simp)) (λb o _ e=>u.there b o e (by simp)) u.tups u.frzs u.tbls (λm' hm=>by
  obtain ⟨o',es',ep',ho',r'⟩:=hm
  rw [ho] at ho';cases ho'
  exact ⟨_,es',ep',hL,r'⟩) hok I.bare
theorem Inv.call {g':Array GenState} {t':Nat} {d':Drawn} {ch:List Addr} (I:Inv X pins σ H s) (u:Un (frs X.stack) ch H H' s.heap h') (hok:HOk X.prog X.w H' h') (hg:AllBare g')
  (hch:∀ b∈ch,(b∈X.ex\/X.s₀.heap.objs.size<=b)/\b≠X.env.locals/\(∀ x c,X.env.cells.lookup x=some c->c≠b)/\∀ p∈X.pn++pins,p.1≠b) :
  Inv X pins σ H' { s with heap:=h',gens:=g',drawn:=d',toks:=t' }:=by
 obtain ⟨m,⟨o,es,ep,ho,r⟩,_⟩:=id I.loc
 obtain ⟨sl,hL⟩:=u.any ho I.free λz=>(hch _ z).2.1 rfl
 exact I.step (ch:=ch) hch (λb o hL hb hc e n=>u.keep b o e n (λz=>(List.mem_cons.mp (I.stkSub b z)).elim hL hb) hc) (λb o _ _ hc e n=>u.any e n hc) (λb o hc e n=>u.free b o e n hc) (λb o hc e=>u.there b o e hc) u.tups u.frzs u.tbls (λm' hm=>by
  obtain ⟨o',es',ep',ho',r'⟩:=hm
  rw [ho] at ho';cases ho'
  exact ⟨_,es',ep',hL,r'⟩) hok hg
theorem Inv.turned {t':Nat} {it:Addr} (I:Inv X pins σ H s) (k:∀ b o,b≠it->s.heap.get? b=some o->h'.get? b=some o) (hn:H it=none) (hL:it≠X.env.locals)
  (h1:it∈X.ex\/X.s₀.heap.objs.size<=it) (h2:∀ x c,X.env.cells.lookup x=some c->c≠it) (h3:∀ p∈X.pn++pins,p.1≠it):Inv X pins σ H { s with heap:=h',toks:=t' }:=by
 have nit:∀ b u,H b=some u->b≠it:=λb u e z=>by rw [z,hn] at e;cases e
 refine I.step (g':=s.gens) (d':=s.drawn) (ch:=[it]) (λb hb=>?_) (λb o _ _ hc e _=>k b o (λz=>hc (by simp [z])) e) (λb o _ _ hc e _=>⟨o.slots,k b o (λz=>hc (by simp [z])) e⟩) (λ_ _ _ _ n=>n)
  (λb o hc e=>⟨o,k b o (λz=>hc (by simp [z])) e⟩) (λ_ _ e=>e) (λ_ _ _ e=>e) (λb ps e=>⟨#[],by rw [e];simp⟩) (λm hm=>?_) (λb u e=>?_) I.bare
 ·have e:b=it:=by simpa using hb
  subst e
  exact ⟨h1,hL,h2,h3⟩
 ·obtain ⟨o,es,ep,ho,r⟩:=hm
  exact ⟨o,es,ep,k _ o (Ne.symm hL) ho,r⟩
 ·refine (I.hok b u e).stay (λc v hc q=>k c v ?_ q) (λ_ q=>q) λ_ _ q=>q
  rcases hc with z | z
  ·rw [z];exact nit b u e
  ·exact nit c _ z
theorem Inv.tok (I:Inv X pins σ H s) (t:Nat):Inv X pins σ H { s with toks:=t }:=I.un (h':=s.heap) (t':=t) Un.refl I.hok
theorem Inv.kept {t':Nat} (I:Inv X pins σ H s) (k:∀ b u,s.heap.get? b=some u->h'.get? b=some u):Inv X pins σ H { s with heap:=h',toks:=t' }:=I.un (Un.kept k) (I.hok.kept k)
theorem Inv.laid {a:Addr} {o:HO} {t':Nat} (I:Inv X pins σ H s) (k:∀ b u,s.heap.get? b=some u->h'.get? b=some u) (hp:s.heap.objs.size<=a) (new:ObjOk X.prog X.w (upd H a o) h' a o) :
  Inv X pins σ (upd H a o) { s with heap:=h',toks:=t' }:=I.un (Un.laid k hp (I.hok.fresh hp)) (I.hok.laid k hp new)
theorem Inv.write {x e:Addr} {o:HO} {t':Nat} (I:Inv X pins σ H s) (mu:Mut (H x)) (he:e=x\/H e=some (.own x)) (k:∀ b u,b≠e->s.heap.get? b=some u->h'.get? b=some u) (heo:∃ u,h'.get? e=some u)
  (new:ObjOk X.prog X.w (upd H x o) h' x o):Inv X pins σ (upd H x o) { s with heap:=h',toks:=t' }:=I.un (Un.write mu he k heo) (I.hok.write mu he k heo new)
theorem Inv.weak {σ':List (Option V)} (I:Inv X pins σ H s) (hl:σ'.length=σ.length) (w:∀ (i:Nat) v,σ'[i]?=some (some v)->σ[i]?=some (some v)):Inv X pins σ' H s:=
 ⟨I.ok,I.os,I.bare,I.base,let ⟨m,hn,hl'⟩:=I.loc;⟨m,hn,λi x v e1 e2 e3=>hl' i x v e1 (w i v e2) e3⟩,I.cell,I.free,I.freeC,I.pin,I.hok,hl.trans I.len⟩
theorem Inv.pins_of {pins':List (Addr×Obj)} (I:Inv X pins σ H s) (h:∀ p∈pins',s.heap.get? p.1=some p.2/\H p.1=none/\p.1≠X.env.locals/\p.1∉X.fs/\∀ v,p.2.data≠.cell v):Inv X pins' σ H s:=
 ⟨I.ok,I.os,I.bare,I.base,I.loc,I.cell,I.free,I.freeC,λp hp=>(List.mem_append.mp hp).elim (λz=>I.pin p (List.mem_append_left _ z)) (h p),I.hok,I.len⟩
theorem a4z {N:List Str} (hN:N.Nodup) {i j:Nat} {x:Str} (a:N[i]?=some x) (b:N[j]?=some x):i=j:=by
 obtain ⟨h1,e1⟩:=List.getElem?_eq_some_iff.mp a
 obtain ⟨h2,e2⟩:=List.getElem?_eq_some_iff.mp b
 exact (List.getElem_inj hN).mp (e1.trans e2.symm)
theorem a13 {M:Model} {A:Around} {E:Value->Shared->Prop} {i:Nat} {x:Str} {v:V} {u:Value} {Q:Unit->Shared->Prop} (I:Inv X pins σ H s) (hN:X.N.Nodup) (hi:X.N[i]?=some x) (hx:Loc X.env.scope x) (r:RelV v u)
  (h:∀ s',Inv X pins (σ.set i (some v)) H s'->(∃ a,Heap.SameBut a s.heap s'.heap/\(a=X.env.locals\/X.env.cells.lookup x=some a))->Q () s') (hf:X.fn x=true\/X.env.scope.names.lookup x=some .local:=by first | exact .inl rfl | exact .inr rfl | assumption):wpAny M A (storeName X.env x u) Q E s:=by
 obtain ⟨m,hn,hl⟩:=id I.loc
 have hcls:(X.env.scope.kind==.class||(X.env.scope.kind==.module&&X.env.locals != X.env.globals))=false:=by rw [I.ok.kind];rfl
 have hiσ:i<σ.length:=by rw [I.len];exact (List.getElem?_eq_some_iff.mp hi).1
 have cne:=I.cne
 have tracked:∀ {a:Addr} {h':Heap},(∃ o,s.heap.get? a=some o/\H a=none)->Heap.SameBut a s.heap h'->HOk X.prog X.w H h':=λ{a h'} ha hs b ob e=>by
  obtain ⟨_,_,hfree⟩:=ha
  refine (I.hok b ob e).stay (λc w' hc q=>(hs.2 c ?_).trans q) (λ_ q=>q) λ_ _ q=>q
  rintro rfl
  rcases hc with rfl | hc
  ·rw [hfree] at e;cases e
  ·rw [hfree] at hc;cases hc
 rcases hx with hk | hk
 ·refine wpAny_storeName_local hk hn (λh' hn' hs=>?_) hcls
  obtain ⟨oL,_,_,hoL,_⟩:=id hn
  refine h _ ⟨I.ok,I.os,I.bare,⟨λb o e n hb hx=>?_,λb o e n hb hx=>?_,I.base.free,λb o e hx=>?_,I.base.tups,I.base.frzs,I.base.tbls⟩,⟨_,hn',λj y v' e1 e2 e3=>?_⟩,λy c e=>?_,I.free,I.freeC,λp hp=>?_,tracked ⟨oL,hoL,I.free⟩ hs,by simpa using I.len⟩ ⟨_,hs,.inl rfl⟩
  ·exact (hs.2 b (Nat.ne_of_lt (Nat.lt_of_lt_of_le (Heap.lt_size e) I.ok.above))).trans (I.base.keep b o e n hb hx)
  ·obtain ⟨sl,e1⟩:=I.base.slot b o e n hb hx
   exact ⟨sl,(hs.2 b (Nat.ne_of_lt (Nat.lt_of_lt_of_le (Heap.lt_size e) I.ok.above))).trans e1⟩
  ·obtain ⟨o',e1⟩:=I.base.there b o e hx
   exact ⟨o',(hs.2 b (Nat.ne_of_lt (Nat.lt_of_lt_of_le (Heap.lt_size e) I.ok.above))).trans e1⟩
  ·by_cases hj:j=i
   ·subst hj
    rw [hi] at e1;cases e1
    rw [List.getElem?_set_self hiσ] at e2
    cases e2
    exact ⟨u,r,.inl ⟨hk,by simp⟩⟩
   ·rw [List.getElem?_set_ne (Ne.symm hj)] at e2
    obtain ⟨u',r',q⟩:=hl j y v' e1 e2 e3
    refine ⟨u',r',?_⟩
    rcases q with ⟨k,e⟩ | ⟨k,c,e,z⟩
    ·refine .inl ⟨k,?_⟩
     have:y≠x:=λe=>hj (a4z hN e1 (e▸hi))
     simp [this,e]
    ·exact .inr ⟨k,c,e,z.sameBut hs (cne y c e)⟩
  ·obtain ⟨w',z⟩:=I.cell y c e
   exact ⟨w',z.sameBut hs (cne y c e)⟩
  ·obtain ⟨e,n,ne,nf,d⟩:=I.pin p hp
   exact ⟨(hs.2 p.1 ne).trans e,n,ne,nf,d⟩
 ·have hfn:X.fn x=true:=by
   rcases hf with z | z
   ·exact z
   ·rw [z] at hk;cases hk
  obtain ⟨c,hc⟩:=I.ok.has x (.inl hk)
  obtain ⟨w',z⟩:=I.cell x c hc
  refine wpAny_storeName_cell I.ok.kind hk hc z (λh' hc' hs=>?_)
  obtain ⟨oc,hoc,hocd⟩:=id z
  refine h { s with heap:=h' } ⟨I.ok,I.os,I.bare,⟨λb o e n hb hx=>?_,λb o e n hb hx=>?_,I.base.free,λb o e hx=>?_,I.base.tups,I.base.frzs,I.base.tbls⟩,⟨m,hn.sameBut hs (Ne.symm (cne x c hc)),λj y v' e1 e2 e3=>?_⟩,λy c' e=>?_,I.free,I.freeC,λp hp=>?_,tracked ⟨oc,hoc,I.freeC x c hc⟩ hs,by simpa using I.len⟩ ⟨c,hs,.inr hc⟩
  ·exact (hs.2 b (Nat.ne_of_lt (Nat.lt_of_lt_of_le (Heap.lt_size e) (I.ok.cab x c hfn hc)))).trans (I.base.keep b o e n hb hx)
  ·obtain ⟨sl,e1⟩:=I.base.slot b o e n hb hx
   exact ⟨sl,(hs.2 b (Nat.ne_of_lt (Nat.lt_of_lt_of_le (Heap.lt_size e) (I.ok.cab x c hfn hc)))).trans e1⟩
  ·obtain ⟨o',e1⟩:=I.base.there b o e hx
   exact ⟨o',(hs.2 b (Nat.ne_of_lt (Nat.lt_of_lt_of_le (Heap.lt_size e) (I.ok.cab x c hfn hc)))).trans e1⟩
  ·by_cases hj:j=i
   ·subst hj
    rw [hi] at e1;cases e1
    rw [List.getElem?_set_self hiσ] at e2
    cases e2
    exact ⟨u,r,.inr ⟨.inl hk,c,hc,hc'⟩⟩
   ·rw [List.getElem?_set_ne (Ne.symm hj)] at e2
    obtain ⟨u',r',q⟩:=hl j y v' e1 e2 e3
    refine ⟨u',r',?_⟩
    rcases q with q | ⟨k,c',e,z'⟩
    ·exact .inl q
    ·refine .inr ⟨k,c',e,z'.sameBut hs ?_⟩
     rintro rfl
     exact hj (a4z hN e1 (I.ok.inj _ _ _ e hc▸hi))
  ·by_cases hcc:c'=c
   ·subst hcc;exact ⟨_,hc'⟩
   ·obtain ⟨w2,z2⟩:=I.cell y c' e
    exact ⟨w2,z2.sameBut hs hcc⟩
  ·obtain ⟨e,n,ne,nf,d⟩:=I.pin p hp
   refine ⟨(hs.2 p.1 ?_).trans e,n,ne,nf,d⟩
   intro q
   rw [q,hoc] at e
   have q':oc=p.2:=Option.some.inj e
   exact d w' (by rw [<- q'];exact hocd)
theorem a57 {M:Model} {A:Around} {E:Value->Shared->Prop} {i:Nat} {x:Str} {v:V} {u:Value} {Q:Unit->Shared->Prop} (I:Inv X pins σ H s) (hN:X.N.Nodup) (hi:X.N[i]?=some x) (hx:Loc X.env.scope x) (r:RelV v u)
  (h:∀ s',Inv X pins (σ.set i (some v)) H s'->Q () s') (hf:X.fn x=true\/X.env.scope.names.lookup x=some .local:=by first | exact .inl rfl | exact .inr rfl | assumption):wpAny M A (storeName X.env x u) Q E s:=
 a13 I hN hi hx r (λs' I' _=>h s' I') hf
theorem Inv.call' {s':Shared} {ch:List Addr} (I:Inv X pins σ H s) (ho:s'.os=s.os) (u:Un (frs X.stack) ch H H' s.heap s'.heap) (hok:HOk X.prog X.w H' s'.heap) (hg:AllBare s'.gens)
  (hch:∀ b∈ch,(b∈X.ex\/X.s₀.heap.objs.size<=b)/\b≠X.env.locals/\(∀ x c,X.env.cells.lookup x=some c->c≠b)/\∀ p∈X.pn++pins,p.1≠b):Inv X pins σ H' s':=by
 obtain ⟨h',g',d',t',o'⟩:=s'
 have e:o'=s.os:=ho
 subst e
 exact I.call (g':=g') (t':=t') (d':=d') u hok hg hch
end
noncomputable abbrev XK:=Value->Option Addr->Hp->Prop
noncomputable abbrev St:=List (Option V)
noncomputable abbrev VK:=V->Hp->Prop
noncomputable abbrev TE:=St->Hp->VK->Prop
noncomputable abbrev TT:=St->Hp->(Bool->Hp->Prop)->Prop
noncomputable abbrev TA:=St->Hp->(List V->Hp->Prop)->Prop
structure Ends where
 nx:St->Hp->Prop
 rt:VK
 bk:St->Hp->Prop:=λ_ _=>False
 ct:St->Hp->Prop:=λ_ _=>False
noncomputable abbrev TS:=Ends->St->Hp->Prop
noncomputable def EP (X:Cx) (pins:List (Addr×Obj)) (σ:St) (Q:VK) (u:Value) (s':Shared):Prop:=∃ v H',Inv X pins σ H' s'/\RelV v u/\Q v H'
noncomputable def TP (X:Cx) (pins:List (Addr×Obj)) (σ:St) (Q:Bool->Hp->Prop) (b:Bool) (s':Shared):Prop:=∃ H',Inv X pins σ H' s'/\Q b H'
noncomputable def AP (X:Cx) (pins:List (Addr×Obj)) (σ:St) (Q:List V->Hp->Prop) (us:List Value) (s':Shared):Prop:=∃ vs H',Inv X pins σ H' s'/\Vals vs us/\Q vs H'
noncomputable def SP (X:Cx) (pins:List (Addr×Obj)) (D:Ends) (f:Flow) (s':Shared):Prop:=
 match f with
 | .next=>∃ σ' H',Inv X pins σ' H' s'/\D.nx σ' H'
 | .brk=>∃ σ' H',Inv X pins σ' H' s'/\D.bk σ' H'
 | .cont=>∃ σ' H',Inv X pins σ' H' s'/\D.ct σ' H'
 | .ret u=>∃ v σ' H',Inv X pins σ' H' s'/\RelV v u/\D.rt v H'
noncomputable def PE (X:Cx) (e:Expr) (t:TE):Prop:=
 ∀ (pins:List (Addr×Obj)) (s:Shared) (σ:St) (H:Hp) (Q:VK),Inv X pins σ H s->t σ H Q->wpAny (model X.prog X.w) X.A (eval e X.env) (EP X pins σ Q) X.xe s
noncomputable def PT (X:Cx) (e:Expr) (t:TT):Prop:=
 ∀ (pins:List (Addr×Obj)) (s:Shared) (σ:St) (H:Hp) (Q:Bool->Hp->Prop),Inv X pins σ H s->t σ H Q->wpAny (model X.prog X.w) X.A (isTrue e X.env (eval e X.env)) (TP X pins σ Q) X.xe s
noncomputable def PW (X:Cx) (e:Expr) (t:TT):Prop:=
 ∀ (whole:Sem Value) (pins:List (Addr×Obj)) (s:Shared) (σ:St) (H:Hp) (Q:Bool->Hp->Prop),Inv X pins σ H s->t σ H Q->wpAny (model X.prog X.w) X.A (isTrue e X.env whole) (TP X pins σ Q) X.xe s
theorem PW.pt {X:Cx} {e:Expr} {t:TT} (h:PW X e t):PT X e t:=h _
noncomputable def PA (X:Cx) (es:List Expr) (t:TA):Prop:=
 ∀ (pos:Pos) (pins:List (Addr×Obj)) (s:Shared) (σ:St) (H:Hp) (Q:List V->Hp->Prop),Inv X pins σ H s->t σ H Q->wpAny (model X.prog X.w) X.A (spliced (backTo pos (starEach es X.env))) (AP X pins σ Q) X.xe s
noncomputable def PS (X:Cx) (st:Stmt) (t:TS):Prop:=
 ∀ (pins:List (Addr×Obj)) (s:Shared) (σ:St) (H:Hp) (D:Ends),Inv X pins σ H s->t D σ H->wpAny (model X.prog X.w) X.A (exec st X.env) (SP X pins D) X.xe s
noncomputable def PSs (X:Cx) (st:List Stmt) (t:TS):Prop:=
 ∀ (pins:List (Addr×Obj)) (s:Shared) (σ:St) (H:Hp) (D:Ends),Inv X pins σ H s->t D σ H->wpAny (model X.prog X.w) X.A (execs st X.env) (SP X pins D) X.xe s
theorem thn {α:Type} {t:Sem α} {Q Q':α->Shared->Prop} {M:Model} {A:Around} {E:Value->Shared->Prop} {s:Shared} (h:wpAny M A t Q E s) (hQ:∀ a s,Q a s->Q' a s):wpAny M A t Q' E s:=wpAny_mono h hQ λ_ _ x=>x
end L2
namespace L2
open PySem PySem.Spec PyProof.Rows
section
variable {X:Cx}
noncomputable def c3s (i:Nat):TE:=λσ H Q=>∃ v,σ[i]?=some (some v)/\Q v H
noncomputable def tC (v:V):TE:=λ_ H Q=>Q v H
theorem b6p {i:Nat} {x:Str} {pos:Pos} (hN:X.N[i]?=some x) (hv:Vis X.env.scope x) (hd:(x==("__debug__" : Str))=false:=by decide) (hcd:(x==("__classdict__" : Str))=false:=by decide):PE X (.Name x pos) (c3s i):=by
 intro pins s σ H Q I h
 obtain ⟨v,e,h⟩:=h
 obtain ⟨m,hn,hl⟩:=I.loc
 obtain ⟨u,r,l⟩:=hl i x v hN e hv
 have fin:EP X pins σ Q u s:=⟨v,H,I,r,h⟩
 rcases l with ⟨hk,hm⟩ | ⟨hk,c,hc,hcell⟩
 ·exact wpAny_Name (wpAny_loadName_local I.ok.kind hk hn hm fin) hd
 ·rcases hk with hk | hk
  ·exact wpAny_Name (wpAny_loadName_cell I.ok.kind hk hc hcell fin) hd
  ·exact wpAny_Name (wpAny_loadName_free I.ok.kind hk hc hcell fin hcd) hd
theorem c12 {i j pos}:PE X (.Constant (.int i) j pos) (tC (.int i)):=λ_ _ _ H _ I h=>wpAny_Constant_int ⟨.int i,H,I.tok _,⟨_,rfl⟩,h⟩
theorem c8s {b j pos}:PE X (.Constant (.bool b) j pos) (tC (.bl b)):=λ_ _ _ H _ I h=>Constant_bool ⟨.bl b,H,I,rfl,h⟩
theorem c3c {j pos}:PE X (.Constant .none j pos) (tC .non):=λ_ _ _ H _ I h=>Constant_none ⟨.non,H,I,rfl,h⟩
theorem c54 {x j pos}:PE X (.Constant (.str x) j pos) (tC (.str x)):=λ_ _ _ H _ I h=>Calls.Constant_str ⟨.str x,H,I.tok _,⟨_,rfl⟩,h⟩
noncomputable def Gl (X:Cx) (x:Str):Prop:=X.env.kindOf x=some .globalImplicit
theorem P7 {E:Value->Shared->Prop} {pins:List (Addr×Obj)} {s:Shared} {σ:St} {H:Hp} {x:Str} {u:Value} {pos:Pos} {Q:Value->Shared->Prop} (I:Inv X pins σ H s) (hg:Gl X x) (hm:X.mg x=some u) (h:Q u s)
  (hd:(x==("__debug__" : Str))=false:=by decide):wpAny (model X.prog X.w) X.A (eval (.Name x pos) X.env) Q E s:=
 Calls.Name_function_global I.ok.kind hg (Calls.loadGlobal_global (by rw [I.ok.glob];exact I.mod.glob.keeps I.bk) hm h) hd
theorem J8 {E:Value->Shared->Prop} {pins:List (Addr×Obj)} {s:Shared} {σ:St} {H:Hp} {x:Str} {u:Value} {pos:Pos} {Q:Value->Shared->Prop} (I:Inv X pins σ H s) (hg:Gl X x) (hm:X.mg x=none) (hv:bootBuiltins x=some u) (h:Q u s)
  (hn:x ≠ "__name__":=by decide) (hd:(x==("__debug__" : Str))=false:=by decide):wpAny (model X.prog X.w) X.A (eval (.Name x pos) X.env) Q E s:=by
 obtain ⟨mb,h1,h2⟩:=I.mod.blt
 exact Calls.Name_function_global I.ok.kind hg (Calls.loadGlobal_builtin (by rw [I.ok.glob];exact I.mod.glob.keeps I.bk) hm (by rw [I.ok.blt];exact h1.keeps I.bk) ((h2 x hn).trans hv) h) hd
theorem c0s {x:Str} {v:V} {u:Value} {pos:Pos} (hg:Gl X x) (hm:X.mg x=some u) (r:RelV v u) (hd:(x==("__debug__" : Str))=false:=by decide):PE X (.Name x pos) (tC v):=
 λ_ _ _ H _ I h=>P7 I hg hm ⟨v,H,I,r,h⟩ hd
theorem b8r {x:Str} {v:V} {u:Value} {pos:Pos} (hg:Gl X x) (hm:X.mg x=none) (hv:bootBuiltins x=some u) (r:RelV v u) (hn:x ≠ "__name__":=by decide) (hd:(x==("__debug__" : Str))=false:=by decide):PE X (.Name x pos) (tC v):=
 λ_ _ _ H _ I h=>J8 I hg hm hv ⟨v,H,I,r,h⟩ hn hd
variable {a b:Expr} {ta tb:TE} {pos:Pos}
variable {tA tB':TT} {rest:List Expr}
noncomputable def d2b (t u:TT):TT:=λσ H Q=>t σ H λc H1=>if c=true then u σ H1 Q else Q false H1
noncomputable def tOr (t u:TT):TT:=λσ H Q=>t σ H λc H1=>if c=true then Q true H1 else u σ H1 Q
noncomputable def c56 (t:TT):TT:=λσ H Q=>t σ H λc H1=>Q (!c) H1
theorem pw_and1 (ha:PT X a tA):PW X (.BoolOp .And [a] pos) tA:=by
 intro wh pins s σ H Q I h
 refine isTrue_and (thn (ha pins s σ H Q I h) λc s1 e=>?_)
 cases c with
 | true=>exact isTrue_and_nil e
 | false=>exact e
theorem pw_or1 (ha:PT X a tA):PW X (.BoolOp .Or [a] pos) tA:=by
 intro wh pins s σ H Q I h
 refine isTrue_or (thn (ha pins s σ H Q I h) λc s1 e=>?_)
 cases c with
 | false=>exact isTrue_or_nil e
 | true=>exact e
theorem pw_and (ha:PT X a tA) (hb:PW X (.BoolOp .And (b :: rest) pos) tB'):PW X (.BoolOp .And (a :: b :: rest) pos) (d2b tA tB'):=by
 intro wh pins s σ H Q I h
 refine isTrue_and (thn (ha pins s σ H _ I h) λc s1 ⟨H1,I1,q1⟩=>?_)
 cases c with
 | true=>exact hb wh pins s1 σ H1 Q I1 q1
 | false=>exact ⟨H1,I1,q1⟩
theorem pw_or (ha:PT X a tA) (hb:PW X (.BoolOp .Or (b :: rest) pos) tB'):PW X (.BoolOp .Or (a :: b :: rest) pos) (tOr tA tB'):=by
 intro wh pins s σ H Q I h
 refine isTrue_or (thn (ha pins s σ H _ I h) λc s1 ⟨H1,I1,q1⟩=>?_)
 cases c with
 | true=>exact ⟨H1,I1,q1⟩
 | false=>exact hb wh pins s1 σ H1 Q I1 q1
theorem c42 (ha:PT X a tA):PT X (.UnaryOp .Not a pos) (c56 tA):=by
 intro pins s σ H Q I h
 exact isTrue_not (ha pins s σ H (λc H1=>Q (!c) H1) I h)
theorem c4p {op} {t:TE} (h:PE X a t):PE X (.BoolOp op [a] pos) t:=λpins s σ H Q I hw=>BoolOp_one (h pins s σ H Q I hw)
noncomputable def tIf (t:TT) (ta tb:TE):TE:=λσ H Q=>t σ H λc H1=>if c=true then ta σ H1 Q else tb σ H1 Q
theorem b54 {c:Expr} (hc:PT X c tA) (ha:PE X a ta) (hb:PE X b tb):PE X (.IfExp c a b pos) (tIf tA ta tb):=by
 intro pins s σ H Q I h
 refine wpAny_IfExp (thn (hc pins s σ H _ I h) λd s1 ⟨H1,I1,q1⟩=>?_)
 cases d with
 | true=>exact ha pins s1 σ H1 Q I1 q1
 | false=>exact hb pins s1 σ H1 Q I1 q1
end
end L2
namespace L2
open PySem PySem.Spec PyProof.Rows
noncomputable def SqL (K:PySem.W.Frag) (H:Hp) (a:Addr) (xs:List V):Prop:=
 Rd H a (.lst xs) \/
  ∃ (o:Obj) (its:Array Value) (n:Nat),K.lookup a=some o/\o.cls=.type "list"/\o.dict=none/\o.data=.seq its n/\its.size<=sizeLine/\Vals xs its.toList
noncomputable def SqT (K:PySem.W.Frag) (H:Hp) (a:Addr) (xs:List V):Prop:=
 Rd H a (.tup xs) \/
  ∃ (o:Obj) (its:Array Value) (n:Nat),K.lookup a=some o/\o.cls=.type "tuple"/\o.data=.seq its n/\its.size<=sizeLine/\Vals xs its.toList
noncomputable def d2k:Value->Option V
 | .none=>some .non
 | .bool b=>some (.bl b)
 | .int i _=>some (.int i)
 | .str x _=>some (.str x)
 | .bytes b _=>some (.byt b)
 | .float b _=>some (.flt b)
 | .ref a=>some (.ref a)
 | .type n=>some (.ty n)
 | _=>none
theorem RelV.abs {x:V} {u:Value} (r:RelV x u):d2k u=some x:=by
 cases x with
 | non=>cases r;rfl
 | bl _=>cases r;rfl
 | int _=>obtain ⟨t,rfl⟩:=r;rfl
 | str _=>obtain ⟨t,rfl⟩:=r;rfl
 | byt _=>obtain ⟨t,rfl⟩:=r;rfl
 | flt _=>obtain ⟨t,rfl⟩:=r;rfl
 | ref _=>cases r;rfl
 | ty _=>cases r;rfl
theorem RelV.inj {x y:V} {u:Value} (r:RelV x u) (q:RelV y u):x=y:=Option.some.inj (r.abs.symm.trans q.abs)
theorem Vals.inj:∀ {xs ys:List V} {us:List Value},Vals xs us->Vals ys us->xs=ys
 | _,_,_,.nil,.nil=>rfl
 | _,_,_,.cons r t,.cons r' t'=>by rw [r.inj r',Vals.inj t t']
section
variable {X:Cx} {pins:List (Addr×Obj)} {σ:St} {H:Hp} {s:Shared} {a:Addr} {xs ys:List V}
theorem Inv.list (I:Inv X pins σ H s) (h:SqL X.K H a xs):∃ its:List Value,Vals xs its/\PlainL s.heap a its.toArray/\xs.length<=sizeLine:=by
 rcases h with h | ⟨o,its,n,hk,hc,hd,hs,hz,r⟩
 ·obtain ⟨z,its,n,r,e⟩:=h.ok I.hok
  exact ⟨its,r,⟨_,n,e,rfl,rfl,rfl⟩,z⟩
 ·refine ⟨its.toList,r,⟨o,n,I.kIn a o hk,hc,hd,by simpa using hs⟩,?_⟩
  have e:=r.length
  simp only [Array.length_toList] at e
  omega
theorem Inv.tuple (I:Inv X pins σ H s) (h:SqT X.K H a xs):∃ its:List Value,Vals xs its/\IsTup s.heap a its.toArray/\xs.length<=sizeLine:=by
 rcases h with h | ⟨o,its,n,hk,hc,hs,hz,r⟩
 ·obtain ⟨z,its,r,p⟩:=h.ok I.hok
  exact ⟨its,r,p.is,z⟩
 ·refine ⟨its.toList,r,⟨o,I.kIn a o hk,hc,n,by simpa using hs⟩,?_⟩
  have e:=r.length
  simp only [Array.length_toList] at e
  omega
theorem Inv.list_inj (I:Inv X pins σ H s) (h:SqL X.K H a xs) (h':SqL X.K H a ys):xs=ys:=by
 obtain ⟨its,r,⟨o,n,e,_,_,d⟩,_⟩:=I.list h
 obtain ⟨its',r',⟨o',n',e',_,_,d'⟩,_⟩:=I.list h'
 rw [e] at e';cases e'
 rw [d] at d'
 injection d' with d1 _
 have:its=its':=by simpa using congrArg Array.toList d1
 subst this
 exact r.inj r'
theorem Inv.tuple_inj (I:Inv X pins σ H s) (h:SqT X.K H a xs) (h':SqT X.K H a ys):xs=ys:=by
 obtain ⟨its,r,⟨o,e,_,n,d⟩,_⟩:=I.tuple h
 obtain ⟨its',r',⟨o',e',_,n',d'⟩,_⟩:=I.tuple h'
 rw [e] at e';cases e'
 rw [d] at d'
 injection d' with d1 _
 have:its=its':=by simpa using congrArg Array.toList d1
 subst this
 exact r.inj r'
end
noncomputable abbrev Cx.wish (X:Cx) (E:Value->Shared->Prop):Cx:={ X with xe:=E }
noncomputable abbrev Cx.nox (X:Cx):Cx:=X.wish λ_ _=>False
theorem Cx.Ok.wish {X:Cx} (ok:X.Ok) (E:Value->Shared->Prop):(X.wish E).Ok:=
 ⟨ok.mod,ok.kind,ok.glob,ok.blt,ok.above,ok.inj,ok.has,ok.cab,ok.hd,ok.frames,ok.stk,ok.exf,ok.bs,ok.bsz,ok.noex,ok.exfs,ok.funs,ok.frf⟩
theorem Cx.Ok.unwish {X:Cx} {E:Value->Shared->Prop} (ok:(X.wish E).Ok):X.Ok:=
 ⟨ok.mod,ok.kind,ok.glob,ok.blt,ok.above,ok.inj,ok.has,ok.cab,ok.hd,ok.frames,ok.stk,ok.exf,ok.bs,ok.bsz,ok.noex,ok.exfs,ok.funs,ok.frf⟩
section
variable {X:Cx} {pins:List (Addr×Obj)} {σ:St} {H:Hp} {s:Shared} {E:Value->Shared->Prop}
theorem Inv.wish (I:Inv X pins σ H s) (E:Value->Shared->Prop):Inv (X.wish E) pins σ H s:=⟨I.ok.wish E,I.os,I.bare,I.base,I.loc,I.cell,I.free,I.freeC,I.pin,I.hok,I.len⟩
theorem Inv.unwish (I:Inv (X.wish E) pins σ H s):Inv X pins σ H s:=⟨I.ok.unwish,I.os,I.bare,I.base,I.loc,I.cell,I.free,I.freeC,I.pin,I.hok,I.len⟩
theorem SP.unwish {D:Ends} {f:Flow} {s':Shared} (h:SP (X.wish E) pins D f s'):SP X pins D f s':=by
 cases f with
 | next=>obtain ⟨σ',H',I,q⟩:=h;exact ⟨σ',H',I.unwish,q⟩
 | brk=>obtain ⟨σ',H',I,q⟩:=h;exact ⟨σ',H',I.unwish,q⟩
 | cont=>obtain ⟨σ',H',I,q⟩:=h;exact ⟨σ',H',I.unwish,q⟩
 | ret u=>obtain ⟨v,σ',H',I,r,q⟩:=h;exact ⟨v,σ',H',I.unwish,r,q⟩
theorem PSs.nox {st:List Stmt} {t:TS} (h:PSs X.nox st t):PSs X st t:=λpins s σ H D I hw=>
 wpAny_mono (h pins s σ H D (I.wish _) hw) (λ_ _ q=>q.unwish) λ_ _ z=>False.elim z
end
section
variable {X:Cx} {st:Stmt} {rest:List Stmt} {t u:TS} {e:Expr} {te:TE} {pos:Pos}
noncomputable def tNext:TS:=λD σ H=>D.nx σ H
noncomputable def d1f (t u:TS):TS:=λD σ H=>t { D with nx:=u D } σ H
theorem b7d:PSs X [] tNext:=λ_ _ σ H _ I h=>wpAny_execs_nil ⟨σ,H,I,h⟩
theorem R1 (h1:PS X st t) (h2:PSs X rest u):PSs X (st :: rest) (d1f t u):=by
 intro pins s σ H D I h
 refine wpAny_execs_cons (thn (h1 pins s σ H { D with nx:=u D } I h) λf s1 q=>?_)
 cases f with
 | next=>
  obtain ⟨σ',H',I',q⟩:=q
  exact h2 pins s1 σ' H' D I' q
 | ret v=>exact q
 | brk=>exact q
 | cont=>exact q
theorem a3i (h1:PS X st t):PSs X [st] t:=by
 intro pins s σ H D I h
 refine wpAny_execs_cons (thn (h1 pins s σ H D I h) λf s1 q=>?_)
 cases f with
 | next=>exact wpAny_execs_nil q
 | ret v=>exact q
 | brk=>exact q
 | cont=>exact q
theorem Inv.quiet {pins:List (Addr×Obj)} {σ:St} {H:Hp} {s:Shared} (I:Inv X pins σ H s):interactive X.env=false:=by simp [interactive,I.ok.kind]
noncomputable def d0m (te:TE):TS:=λD σ H=>te σ H λ_ H1=>D.nx σ H1
theorem Y9 (he:PE X e te) (hs:swapsWith e none pos.line X.env=pure false:=by rfl):PS X (.Expr e pos) (d0m te):=by
 intro pins s σ H D I h
 exact wpAny_Expr_any (thn (he pins s σ H _ I h) λv s1 ⟨x,H1,I1,r1,q1⟩=>⟨σ,H1,I1,q1⟩) I.quiet hs
noncomputable def d1e (te:TE):TS:=λD σ H=>te σ H D.rt
theorem c3n (he:PE X e te):PS X (.Return (some e) pos) (d1e te):=by
 intro pins s σ H D I h
 exact wpAny_Return_some (thn (he pins s σ H _ I h) λv s1 ⟨x,H1,I1,r1,q1⟩=>⟨x,σ,H1,I1,r1,q1⟩)
noncomputable def d10 (c:TT) (t u:TS):TS:=λD σ H=>c σ H λb H1=>if b=true then t D σ H1 else u D σ H1
theorem ps_if {c:Expr} {a b:List Stmt} {tc:TT} (hc:PT X c tc) (ha:PSs X a t) (hb:PSs X b u):PS X (.If c a b pos) (d10 tc t u):=by
 intro pins s σ H D I h
 refine wpAny_If (thn (hc pins s σ H _ I h) λd s1 ⟨H1,I1,q1⟩=>?_)
 cases d with
 | true=>exact ha pins s1 σ H1 D I1 q1
 | false=>exact hb pins s1 σ H1 D I1 q1
noncomputable def tNever:TS:=λ_ _ _=>False
theorem b2j:PS X st tNever:=λ_ _ _ _ _ _ h=>h.elim
end
noncomputable abbrev TG:=V->St->Hp->(St->Hp->Prop)->Prop
noncomputable abbrev TGs:=List V->St->Hp->(St->Hp->Prop)->Prop
noncomputable def PG (X:Cx) (target:Expr) (t:TG):Prop:=
 ∀ (pins:List (Addr×Obj)) (s:Shared) (σ:St) (H:Hp) (v:V) (u:Value) (Q:St->Hp->Prop),Inv X pins σ H s->RelV v u->t v σ H Q ->
  wpAny (model X.prog X.w) X.A (assign target X.env u) (λ_ s'=>∃ σ' H',Inv X pins σ' H' s'/\Q σ' H') X.xe s
noncomputable def PGs (X:Cx) (ts:List Expr) (t:TGs):Prop:=
 ∀ (pins:List (Addr×Obj)) (s:Shared) (σ:St) (H:Hp) (vs:List V) (us:List Value) (Q:St->Hp->Prop),Inv X pins σ H s->Vals vs us->t vs σ H Q ->
  wpAny (model X.prog X.w) X.A (assignInOrder ((assignEach ts X.env).map (·.2)) us) (λ_ s'=>∃ σ' H',Inv X pins σ' H' s'/\Q σ' H') X.xe s
noncomputable abbrev c4s:=V->V->V->Hp->(Hp->Prop)->Prop
noncomputable def c2o (X:Cx) (t:c4s):Prop:=
 ∀ (pins:List (Addr×Obj)) (s:Shared) (σ:St) (H:Hp) (o i v:V) (ov iv u:Value) (Q:Hp->Prop),Inv X pins σ H s->RelV o ov->RelV i iv->RelV v u->t o i v H Q ->
  wpAny (model X.prog X.w) X.A (setItem ov iv u) (λ_ s'=>∃ H',Inv X pins σ H' s'/\Q H') X.xe s
section
variable {X:Cx} {pos:Pos}
noncomputable def a9g (i:Nat):TG:=λv σ H Q=>Q (σ.set i (some v)) H
theorem M9 {i:Nat} {x:Str} (hN:X.N.Nodup) (hi:X.N[i]?=some x) (hx:Loc X.env.scope x) (hf:X.fn x=true\/X.env.scope.names.lookup x=some .local:=by first | exact .inl rfl | exact .inr rfl | assumption):PG X (.Name x pos) (a9g i):=by
 intro pins s σ H v u Q I r h
 exact wpAny_assign_Name (a57 I hN hi hx r (λs' I'=>⟨_,H,I',h⟩) hf)
noncomputable def gNil:TGs:=λvs σ H Q=>vs=[]/\Q σ H
noncomputable def c7c (t:TG) (u:TGs):TGs:=λvs σ H Q=>∃ v r,vs=v :: r/\t v σ H λσ' H'=>u r σ' H' Q
theorem b62:PGs X [] gNil:=by
 intro pins s σ H vs us Q I r h
 obtain ⟨e,h⟩:=h
 subst e
 cases r
 exact assignInOrder_nil ⟨σ,H,I,h⟩
theorem b6f {e:Expr} {es:List Expr} {t:TG} {u:TGs} (h1:PG X e t) (h2:PGs X es u)
  (hs:(assignEach (e :: es) X.env).map (·.2)=assign e X.env :: (assignEach es X.env).map (·.2):=by rfl):PGs X (e :: es) (c7c t u):=by
 intro pins s σ H vs us Q I r h
 obtain ⟨v,vr,e1,h⟩:=h
 subst e1
 cases r with
 | cons r rr=>
  rw [hs]
  refine assignInOrder_cons (thn (h1 pins s σ H _ _ _ I r h) λ_ s1 ⟨σ1,H1,I1,q1⟩=>?_)
  exact h2 pins s1 σ1 H1 _ _ Q I1 rr q1
noncomputable def d1g (K:PySem.W.Frag) (n:Nat) (t:TGs):TG:=λv σ H Q=>∃ a xs,v=.ref a/\SqT K H a xs/\xs.length=n/\t xs σ H Q
theorem c5a {es:List Expr} {k:Nat} {t:TGs} {n:Nat} (hc:X.calm=true) (h:PGs X es t)
  (hn:(assignEach es X.env).length=n:=by rfl) (hst:(assignEach es X.env).findIdx? (·.1)=none:=by rfl):PG X (.Tuple es k pos) (d1g X.K n t):=by
 intro pins s σ H v u Q I r hw
 obtain ⟨a,xs,e1,hq,hl,hw⟩:=hw
 subst e1
 cases r
 obtain ⟨its,rv,ht,hz⟩:=I.tuple hq
 refine assign_Tuple_tuple (I.ok.hd hc) ht (by simp [hn,<- hl,rv.length]) hst λh' hx=>?_
 have I1:Inv X pins σ H { s with heap:=h' }:=I.kept (t':=s.toks) λb o e=>hx b o (Nat.ne_of_lt (Heap.lt_size e)) e
 exact h pins _ σ H xs _ Q I1 (by simpa using rv) hw
noncomputable def d1j (to ti:TE) (t:c4s):TG:=λv σ H Q=>to σ H λo H1=>ti σ H1 λi H2=>t o i v H2 λH3=>Q σ H3
theorem c24 {o i:Expr} {to ti:TE} {t:c4s} (ho:PE X o to) (hi:PE X i ti) (hs:c2o X t)
  (ha:∀ v,assign (.Subscript o i pos) X.env v=(do
   let ov <- holding [v] (eval o X.env)
   let iv <- holding [v,ov] (eval i X.env)
   standAt pos
   holding [v,ov,iv] (setItem ov iv v)
   release [v,ov,iv] []):=by intro _;rfl):PG X (.Subscript o i pos) (d1j to ti t):=by
 intro pins s σ H v u Q I r h
 rw [ha]
 refine wpAny_bind (wpAny_holding (thn (ho pins s σ H _ I h) λov s1 ⟨x,H1,I1,r1,q1⟩=>?_))
 refine wpAny_bind (wpAny_holding (thn (hi pins s1 σ H1 _ I1 q1) λiv s2 ⟨y,H2,I2,r2,q2⟩=>?_))
 refine wpAny_bind (wpAny_standAt (wpAny_bind (wpAny_holding (thn (hs pins s2 σ H2 x y v ov iv u _ I2 r1 r2 r q2) λ_ s3 ⟨H3,I3,q3⟩=>?_))))
 exact wpAny_release ⟨σ,H3,I3,q3⟩
noncomputable def b7u (te:TE) (g:TG):TS:=λD σ H=>te σ H λx H1=>g x σ H1 D.nx
theorem a6v {tg e:Expr} {te:TE} {g:TG} (he:PE X e te) (hg:PG X tg g) (hs:swapsWithSole [tg] e pos.line X.env=pure false:=by rfl) (hw:swappedStores [tg] e X.env=pure none:=by rfl)
  (h1:(assignEach [tg] X.env).map (·.2)=[assign tg X.env]:=by rfl):PS X (.Assign [tg] e pos) (b7u te g):=by
 intro pins s σ H D I h
 refine wpAny_Assign_stores (thn (he pins s σ H _ I h) λv s1 ⟨x,H1,I1,r1,q1⟩=>?_) hs hw
 rw [h1]
 exact thn (hg pins s1 σ H1 x v _ I1 r1 q1) λ_ s2 q=>q
theorem b6a {i:Nat} {x:Str} {e:Expr} {te:TE} {pos':Pos} (hN:X.N.Nodup) (hi:X.N[i]?=some x) (hx:Loc X.env.scope x) (he:PE X e te) (hs:swapsWith e (some (.Name x pos')) pos.line X.env=pure false:=by rfl) (hf:X.fn x=true\/X.env.scope.names.lookup x=some .local:=by first | exact .inl rfl | exact .inr rfl | assumption) :
  PS X (.Assign [.Name x pos'] e pos) (b7u te (a9g i)):=by
 intro pins s σ H D I h
 refine wpAny_Assign_Name (thn (he pins s σ H _ I h) λv s1 ⟨y,H1,I1,r1,q1⟩=>?_) hs
 exact a57 I1 hN hi hx r1 (λs2 I2=>⟨_,H1,I2,q1⟩) hf
end
structure It where
 go:Nat->Hp->Prop
 yld:Nat->Hp->V->Hp->Prop
 stop:Nat->Hp->Prop
noncomputable def J3 (X:Cx) (pins:List (Addr×Obj)) (H:Hp) (b:Addr):Prop:=
 H b=none/\b≠X.env.locals/\b∉X.fs/\(b∈X.ex\/X.s₀.heap.objs.size<=b)/\(∀ x c,X.env.cells.lookup x=some c->c≠b)/\∀ p∈X.pn++pins,p.1≠b
theorem Inv.fpOk {X:Cx} {pins:List (Addr×Obj)} {σ:St} {H H':Hp} {s:Shared} {b:Addr} (I:Inv X pins σ H s) (hb:s.heap.objs.size<=b) (hn:H' b=none):J3 X pins H' b:=by
 refine ⟨hn,Nat.ne_of_gt (Nat.lt_of_lt_of_le I.lt hb),I.nofs hb,.inr (Nat.le_trans I.sz hb),λx c e z=>?_,λp hp z=>?_⟩
 ·obtain ⟨v,q⟩:=I.cell x c e
  exact absurd (Nat.lt_of_lt_of_le q.lt (by rw [z];exact hb)) (Nat.lt_irrefl _)
 ·exact absurd (Nat.lt_of_lt_of_le (Heap.lt_size (I.pin p hp).1) (by rw [z];exact hb)) (Nat.lt_irrefl _)
structure Turn (P:Program) (w:World) (K:PySem.W.Frag) (tg:Expr) (J:It) (fp:List Addr) (it:Addr) (tn:Nat->Heap->Prop):Prop where
 mem:it∈fp
 obj:∀ i h,tn i h->∀ b∈fp,∃ o,h.get? b=some o/\∀ v,o.data≠.cell v
 keep:∀ i h h',tn i h->(∀ b∈fp,∀ o,h.get? b=some o->h'.get? b=some o)->tn i h'
 item:∀ (X:Cx),X.prog=P->X.w=w->X.K=K->X.calm=true->∀ (i:Nat) (pins:List (Addr×Obj)) (s:Shared) (σ:St) (H:Hp) (E:Value->Shared->Prop),Inv X pins σ H s->(∀ b∈fp,J3 X pins H b)->tn i s.heap->J.go i H ->
  wpAny (model P w) X.A (pyNext (.ref it)) (λr s1=>∃ u,r=some u /\
   wpAny (model P w) X.A (letOwnedTupleGo tg (.ref it) u) (λ_ s2=>∃ x H',Inv X pins σ H' s2/\RelV x u/\J.yld i H x H'/\tn (i+1) s2.heap/\∀ b∈fp,H' b=none) E s1) E s
 done:∀ (X:Cx),X.prog=P->X.w=w->X.K=K->X.calm=true->∀ (i:Nat) (pins:List (Addr×Obj)) (s:Shared) (σ:St) (H:Hp) (E:Value->Shared->Prop),Inv X pins σ H s->(∀ b∈fp,J3 X pins H b)->tn i s.heap->J.stop i H ->
  wpAny (model P w) X.A (pyNext (.ref it)) (λr s1=>r=none/\Inv X pins σ H s1) E s
 self:∀ (A:Around) (i:Nat) (s:Shared) (Q:Value->Shared->Prop) (E:Value->Shared->Prop),tn i s.heap->Q (.ref it) s->wpAny (model P w) A (pyIter (.ref it)) Q E s
noncomputable abbrev TI:=St->Hp->(It->Hp->Prop)->Prop
noncomputable def PIE (X:Cx) (pins:List (Addr×Obj)) (σ:St) (tg:Expr) (R:It->Hp->Prop) (itv:Value) (s2:Shared):Prop:=
 ∃ (it:Addr) (fp:List Addr) (tn:Nat->Heap->Prop) (J:It) (H':Hp),itv=.ref it/\Inv X pins σ H' s2/\Turn X.prog X.w X.K tg J fp it tn/\tn 0 s2.heap/\(∀ b∈fp,J3 X pins H' b)/\R J H'
noncomputable def PI (X:Cx) (tg iter:Expr) (wi:TI):Prop:=
 ∀ (pins:List (Addr×Obj)) (s:Shared) (σ:St) (H:Hp) (R:It->Hp->Prop),Inv X pins σ H s->wi σ H R ->
  wpAny (model X.prog X.w) X.A (eval iter X.env) (λv s1=>wpAny (model X.prog X.w) X.A (pyIter v) (PIE X pins σ tg R) X.xe s1) X.xe s
theorem b1s {M:Model} {A:Around} {E:Value->Shared->Prop} {s:Shared} {tg:Expr} {it:Addr} {u:Value} {o:Obj} {n:String} {vs:Array Value} {Q:Unit->Shared->Prop} (ho:s.heap.get? it=some o) (hc:o.cls=.type n) (hd:o.data=.fields vs)
  (hn:["enumerate","zip","dict_itemiterator","dict_reverseitemiterator","odict_iterator","itertools.zip_longest","itertools.pairwise"].contains n=false) (hQ:Q () s):wpAny M A (letOwnedTupleGo tg (.ref it) u) Q E s:=by
 unfold letOwnedTupleGo
 cases tg <;> first
  | exact wpAny_pure hQ
  | (cases u <;> first
    | exact wpAny_pure hQ
    | (refine wpAny_bind (wpAny_load ho ?_);rw [hc,hd];show wpAny M A (if (["enumerate","zip","dict_itemiterator","dict_reverseitemiterator","odict_iterator","itertools.zip_longest","itertools.pairwise"].contains n&&vs[0]?==some (rawInt _))=true then _ else _) Q E s;rw [if_neg (by intro h;rw [hn,Bool.false_and] at h;cases h)];exact wpAny_pure hQ))
noncomputable def Itl (K:PySem.W.Frag) (a:Addr):It:=
 ⟨λi H=>∃ xs x,SqL K H a xs/\xs[i]?=some x,λi H x H'=>H'=H/\∀ xs,SqL K H a xs->xs[i]?=some x,λi H=>∃ xs,SqL K H a xs/\xs.length<=i⟩
noncomputable def Itt (K:PySem.W.Frag) (a:Addr):It:=
 ⟨λi H=>∃ xs x,SqT K H a xs/\xs[i]?=some x,λi H x H'=>H'=H/\∀ xs,SqT K H a xs->xs[i]?=some x,λi H=>∃ xs,SqT K H a xs/\xs.length<=i⟩
noncomputable def Itr (lo:Int) (n:Nat):It:=⟨λi _=>i<n,λi H x H'=>H'=H/\x=.int (lo+i),λi _=>n<=i⟩
theorem b0l {P:Program} {w:World} {K:PySem.W.Frag} {tg:Expr} (a it:Addr):Turn P w K tg (Itl K a) [it] it (λi h=>h.IsListIter it a i) where
 mem:=by simp
 obj:=λi h st b hb=>by
  have e:b=it:=by simpa using hb
  subst e
  obtain ⟨o,e,c,d⟩:=st
  exact ⟨o,e,λv z=>by rw [d] at z;cases z⟩
 keep:=λi h h' st k=>st.at λo e=>k it (by simp) o e
 item:=by
  intro X hP hw hK hc i pins s σ H E I hf st hg
  subst hP hw hK
  obtain ⟨xs,x,hq,hx⟩:=hg
  obtain ⟨its,rv,p,hz⟩:=I.list hq
  obtain ⟨u,hu,ru⟩:=rv.get hx
  obtain ⟨f0,f1,f2,f3,f4,f5⟩:=hf it (by simp)
  refine wpAny_pyNext_list_item st p.isList (x:=u) (by simpa using hu) λh' st' sb=>?_
  have I1:Inv X pins σ H { s with heap:=h' }:=I.turned (t':=s.toks) (λb o hb e=>(sb.2 b hb).trans e) f0 f1 f3 f4 f5
  obtain ⟨o,e,c,d⟩:=id st'
  exact ⟨u,rfl,b1s (s:={ s with heap:=h' }) e c d (by decide) ⟨x,H,I1,ru,⟨rfl,λys hy=>by rw [I.list_inj hy hq];exact hx⟩,st',λb hb=>(hf b hb).1⟩⟩
 done:=by
  intro X hP hw hK hc i pins s σ H E I hf st hg
  subst hP hw hK
  obtain ⟨xs,hq,hx⟩:=hg
  obtain ⟨its,rv,p,hz⟩:=I.list hq
  obtain ⟨f0,f1,f2,f3,f4,f5⟩:=hf it (by simp)
  have hl:=rv.length
  exact wpAny_pyNext_list_end (I.ok.hd hc) st p.isList (by simp;omega) λh' eb=>⟨rfl,I.turned (t':=s.toks) (λb o hb e=>eb b o hb e) f0 f1 f3 f4 f5⟩
 self:=λ_ _ _ _ _ st h=>wpAny_pyIter_listiter st h
theorem a6m {P:Program} {w:World} {K:PySem.W.Frag} {tg:Expr} (a it:Addr):Turn P w K tg (Itt K a) [it] it (λi h=>h.IsTupleIter it a i) where
 mem:=by simp
 obj:=λi h st b hb=>by
  have e:b=it:=by simpa using hb
  subst e
  obtain ⟨o,e,c,d⟩:=st
  exact ⟨o,e,λv z=>by rw [d] at z;cases z⟩
 keep:=λi h h' st k=>st.at λo e=>k it (by simp) o e
 item:=by
  intro X hP hw hK hc i pins s σ H E I hf st hg
  subst hP hw hK
  obtain ⟨xs,x,hq,hx⟩:=hg
  obtain ⟨its,rv,p,hz⟩:=I.tuple hq
  obtain ⟨u,hu,ru⟩:=rv.get hx
  obtain ⟨f0,f1,f2,f3,f4,f5⟩:=hf it (by simp)
  refine wpAny_pyNext_tuple_item st (show s.heap.IsTuple a its.toArray from p) (x:=u) (by simpa using hu) λh' st' sb=>?_
  have I1:Inv X pins σ H { s with heap:=h' }:=I.turned (t':=s.toks) (λb o hb e=>(sb.2 b hb).trans e) f0 f1 f3 f4 f5
  obtain ⟨o,e,c,d⟩:=id st'
  exact ⟨u,rfl,b1s (s:={ s with heap:=h' }) e c d (by decide) ⟨x,H,I1,ru,⟨rfl,λys hy=>by rw [I.tuple_inj hy hq];exact hx⟩,st',λb hb=>(hf b hb).1⟩⟩
 done:=by
  intro X hP hw hK hc i pins s σ H E I hf st hg
  subst hP hw hK
  obtain ⟨xs,hq,hx⟩:=hg
  obtain ⟨its,rv,p,hz⟩:=I.tuple hq
  obtain ⟨f0,f1,f2,f3,f4,f5⟩:=hf it (by simp)
  have hl:=rv.length
  exact wpAny_pyNext_tuple_end (I.ok.hd hc) st (show s.heap.IsTuple a its.toArray from p) (by simp;omega) λh' eb=>⟨rfl,I.turned (t':=s.toks) (λb o hb e=>eb b o hb e) f0 f1 f3 f4 f5⟩
 self:=λ_ _ _ _ _ st h=>wpAny_pyIter_tupleiter st h
theorem a63 {P:Program} {w:World} {K:PySem.W.Frag} {tg:Expr} (it:Addr) (lo:Int) (n:Nat):Turn P w K tg (Itr lo n) [it] it (λi h=>IsRangeIter h it (lo+(i:Nat) * 1) ((n:Int)-(i:Nat)) 1) where
 mem:=by simp
 obj:=λi h st b hb=>by
  have e:b=it:=by simpa using hb
  subst e
  exact ⟨_,st,λv z=>by
   have z':Data.fields _=Data.cell v:=z
   cases z'⟩
 keep:=λi h h' st k=>k it (by simp) _ st
 item:=by
  intro X hP hw hK hc i pins s σ H E I hf st hg
  subst hP hw hK
  obtain ⟨f0,f1,f2,f3,f4,f5⟩:=hf it (by simp)
  have W:=Walks.range (prog:=X.prog) (w:=X.w) (I.ok.hd hc) it lo 1 n
  refine W.item i s _ _ hg st λv h' tk hv st' kk=>?_
  obtain ⟨t,rfl⟩:=hv
  have I1:Inv X pins σ H { s with heap:=h',toks:=tk }:=I.turned (λb o hb e=>kk b o (by simpa using hb) e) f0 f1 f3 f4 f5
  refine ⟨_,rfl,b1s (s:={ s with heap:=h',toks:=tk }) (n:="range_iterator") st' rfl rfl (by decide) ⟨.int (lo+i),H,I1,⟨t,?_⟩,⟨rfl,rfl⟩,st',λb hb=>(hf b hb).1⟩⟩
  rw [Int.mul_one]
 done:=by
  intro X hP hw hK hc i pins s σ H E I hf st hg
  subst hP hw hK
  obtain ⟨f0,f1,f2,f3,f4,f5⟩:=hf it (by simp)
  exact wpAny_pyNext_range_end (I.ok.hd hc) st (by have:n<=i:=hg;omega) λh' eb=>⟨rfl,I.turned (t':=s.toks) (λb o hb e=>eb b o hb e) f0 f1 f3 f4 f5⟩
 self:=λ_ _ _ _ _ st h=>wpAny_pyIter_rangeiter st h
end L2
namespace L2
open PySem PySem.Spec PyProof.Rows
section
variable {X:Cx} {tg:Expr}
theorem b50 {pins:List (Addr×Obj)} {σ:St} {H:Hp} {s:Shared} {R:It->Hp->Prop} {E:Value->Shared->Prop} {lo hi:Int} {t u v:Tok} {tk:Nat} (I:Inv X pins σ H s) (h1:-(2 ^ 62)<=lo) (h2:lo<2 ^ 62) (h3:-(2 ^ 62)<=hi) (h4:hi<2 ^ 62)
  (q:R (Itr lo (hi-lo).toNat) H):wpAny (model X.prog X.w) X.A (pyIter (.ref s.heap.objs.size)) (PIE X pins σ tg R) E { s with heap:=s.heap.push { cls:=.type "range",data:=.fields #[.int lo t,.int hi u,.int 1 v] },toks:=tk }:=by
 refine wpAny_pyIter_range (IsRange.new ..) (small_one h1 h2 h3 h4) ?_
 have I1:Inv X pins σ H { s with heap:=s.heap.push { cls:=.type "range",data:=.fields #[.int lo t,.int hi u,.int 1 v] },toks:=tk }:=I.kept λb o e=>Heap.get?_push_of_some _ e
 refine ⟨(s.heap.push { cls:=.type "range",data:=.fields #[.int lo t,.int hi u,.int 1 v] }).objs.size,[(s.heap.push { cls:=.type "range",data:=.fields #[.int lo t,.int hi u,.int 1 v] }).objs.size],_,_,H,rfl,
  I1.kept (t':=tk) λb o e=>Heap.get?_push_of_some _ e,a63 _ lo (hi-lo).toNat,?_,λb hb=>?_,q⟩
 ·have e1:lo+((0:Nat):Int) * 1=lo:=by simp
  have e2:(((hi-lo).toNat:Nat):Int)-((0:Nat):Int)=Builtin.Range.rangeSize lo hi 1:=by rw [rangeSize_one];split <;> omega
  show IsRangeIter _ _ (lo+((0:Nat):Int) * 1) ((((hi-lo).toNat:Nat):Int)-((0:Nat):Int)) 1
  rw [e1,e2]
  exact Heap.get?_push_size _ rfl
 ·have e:b=(s.heap.push { cls:=.type "range",data:=.fields #[.int lo t,.int hi u,.int 1 v] }).objs.size:=by simpa using hb
  subst e
  exact I1.fpOk (Nat.le_refl _) (I1.hok.fresh (Nat.le_refl _))
noncomputable def c96 (ta:TA):TI:=λσ H R=>ta σ H λvs H1=>∃ j:Int,vs=[.int j]/\-(2 ^ 62)<=j/\j<2 ^ 62/\R (Itr 0 j.toNat) H1
theorem b1h {a:Expr} {ta:TA} {p pos:Pos} (hg:Gl X "range") (hm:X.mg "range" = none) (ha:PA X [a] ta) (hs:starEach [a] X.env=[(false,eval a X.env)]:=by rfl):PI X tg (.Call (.Name "range" p) [a] [] pos) (c96 ta):=by
 intro pins s σ H R I h
 refine Call_ (J8 I hg hm boot_range (PyProof.Rows.callWith_type1 (thn (ha pos pins s σ H _ I h) λus s1 ⟨vs,H1,I1,r1,q1⟩=>?_) hs rfl))
 obtain ⟨j,e,q1,q2,q⟩:=q1
 subst e
 cases r1 with
 | cons r rr=>
  cases rr
  obtain ⟨t,rfl⟩:=r
  exact call_range_1 (b50 I1 (by omega) (by omega) q1 q2 (by simpa using q))
noncomputable def d1t (wi:TI) (g:TG) (tb:TS):TS:=λD σ H=>wi σ H λJ H1=>∃ W:Nat->Nat->St->Hp->Prop,(∃ m,W 0 m σ H1)/\∀ i m σ H,W i m σ H ->
 (J.stop i H/\D.nx σ H)\/(J.go i H/\∃ N:St->Hp->Prop,(∀ σ' H',N σ' H'->∃ m',m'<m/\W (i+1) m' σ' H')/\∀ x H',J.yld i H x H'->g x σ H' λσ2 H2=>tb { D with nx:=N,ct:=N,bk:=D.nx } σ2 H2)
noncomputable def u9 (fp:List Addr) (h:Heap):List (Addr×Obj):=fp.filterMap λb=>(h.get? b).map λo=>(b,o)
theorem m7 {fp:List Addr} {h:Heap} {b:Addr} {o:Obj} (hb:b∈fp) (e:h.get? b=some o):(b,o)∈u9 fp h:=List.mem_filterMap.mpr ⟨b,hb,by rw [e];rfl⟩
theorem b0q {fp:List Addr} {h:Heap} {p:Addr×Obj} (hp:p∈u9 fp h):p.1∈fp/\h.get? p.1=some p.2:=by
 obtain ⟨b,hb,e⟩:=List.mem_filterMap.mp hp
 cases q:h.get? b with
 | none=>rw [q] at e;cases e
 | some o=>
  rw [q] at e
  have e':(b,o)=p:=Option.some.inj e
  subst e'
  exact ⟨hb,q⟩
theorem Inv.pinned {pins:List (Addr×Obj)} {σ:St} {H:Hp} {s:Shared} {fp:List Addr} (I:Inv X pins σ H s) (hf:∀ b∈fp,J3 X pins H b) (ho:∀ b∈fp,∃ o,s.heap.get? b=some o/\∀ v,o.data≠.cell v):Inv X (pins++u9 fp s.heap) σ H s:=
 I.pins_of λp hp=>(List.mem_append.mp hp).elim (λz=>I.pin p (List.mem_append_right _ z)) λz=>by
  obtain ⟨hb,e⟩:=b0q z
  obtain ⟨f0,f1,f2,_⟩:=hf p.1 hb
  obtain ⟨o,e',d⟩:=ho p.1 hb
  rw [e] at e';cases e'
  exact ⟨e,f0,f1,f2,d⟩
theorem Inv.unpinned {pins pl:List (Addr×Obj)} {σ:St} {H:Hp} {s:Shared} (I:Inv X (pins++pl) σ H s):Inv X pins σ H s:=I.pins_of λp hp=>I.pin p (List.mem_append_right _ (List.mem_append_left _ hp))
theorem c29 {iter:Expr} {body:List Stmt} {wi:TI} {g:TG} {tb:TS} {pos:Pos} (hp:PassesOwn (model X.prog X.w) X.A X.env X.xe) (hc:X.calm=true) (hi:PI X tg iter wi) (hg:PG X tg g) (hb:PSs X body tb)
  (hs:∀ x,foldedSetIterable iter X.env x=pure x:=by intro _;rfl):PS X (.For tg iter body [] pos) (d1t wi g tb):=by
 intro pins s σ H D I h
 refine wpAny_For (thn (hi pins s σ H _ I h) λv s1 h1=>thn h1 λitv s2 h2=>?_) hs
 obtain ⟨it,fp,tn,J,H2,e,I2,T,st2,f2,W,⟨m0,w0⟩,turn⟩:=h2
 subst e
 have stat:∀ {H':Hp},(∀ b∈fp,H' b=none)->∀ b∈fp,J3 X pins H' b:=λhn b hb=>⟨hn b hb,(f2 b hb).2⟩
 refine codeAny_forLoop_any (λn s'=>∃ i σ' H',Inv X pins σ' H' s'/\tn i s'.heap/\(∀ b∈fp,H' b=none)/\W i n σ' H') ?_ m0 ⟨0,σ,H2,I2,st2,λb hb=>(f2 b hb).1,w0⟩
 rintro n s3 ⟨i,σ3,H3,I3,st3,fr3,w3⟩
 rcases turn i n σ3 H3 w3 with ⟨stop,qn⟩ | ⟨go,N,hN,step⟩
 ·refine wpAny_passesOwn hp (thn (T.done X rfl rfl rfl hc i pins s3 σ3 H3 X.xe I3 (stat fr3) st3 stop) λr s4 ⟨hr,I4⟩=>?_)
  subst hr
  exact wpAny_execs_nil ⟨σ3,H3,I4,qn⟩
 ·refine wpAny_passesOwn hp (thn (T.item X rfl rfl rfl hc i pins s3 σ3 H3 X.xe I3 (stat fr3) st3 go) λr s4 ⟨u,hr,h4⟩=>?_)
  subst hr
  refine wpAny_passesOwn hp (thn h4 λ_ s5 ⟨x,H5,I5,r5,y5,st5,fr5⟩=>?_)
  have I5':=I5.pinned (stat fr5) (T.obj _ _ st5)
  refine wpAny_passesOwn hp (thn (hg _ s5 σ3 H5 x u _ I5' r5 (step x H5 y5)) λ_ s6 ⟨σ6,H6,I6,q6⟩=>?_)
  refine wpAny_passesOwn hp (thn (hb _ s6 σ6 H6 _ I6 q6) λf s7 q7=>?_)
  have again:∀ {σ7:St} {H7:Hp},Inv X (pins++u9 fp s5.heap) σ7 H7 s7->N σ7 H7->∃ m,m<n/\∃ i σ' H',Inv X pins σ' H' s7/\tn i s7.heap/\(∀ b∈fp,H' b=none)/\W i m σ' H':=λ{σ7 H7} I7 n7=>by
   obtain ⟨m',hm,w7⟩:=hN σ7 H7 n7
   refine ⟨m',hm,i+1,σ7,H7,I7.unpinned,T.keep _ _ _ st5 λb hb o e=>(I7.pin (b,o) (List.mem_append_right _ (List.mem_append_right _ (m7 hb e)))).1,λb hb=>?_,w7⟩
   obtain ⟨o,e,d⟩:=T.obj _ _ st5 b hb
   exact (I7.pin (b,o) (List.mem_append_right _ (List.mem_append_right _ (m7 hb e)))).2.1
  cases f with
  | next=>obtain ⟨σ7,H7,I7,n7⟩:=q7;exact again I7 n7
  | cont=>obtain ⟨σ7,H7,I7,n7⟩:=q7;exact again I7 n7
  | brk=>obtain ⟨σ7,H7,I7,q7⟩:=q7;exact ⟨σ7,H7,I7.unpinned,q7⟩
  | ret v=>obtain ⟨x7,σ7,H7,I7,r7,q7⟩:=q7;exact ⟨x7,σ7,H7,I7.unpinned,r7,q7⟩
end
end L2
namespace L2
open PySem PySem.Spec PyProof.Rows
noncomputable abbrev R2:=V->V->Hp->VK->Prop
noncomputable def OpR (X:Cx) (f:Value->Value->Sem Value) (r:R2):Prop:=
 ∀ (pins:List (Addr×Obj)) (s:Shared) (σ:St) (H:Hp) (x y:V) (v u:Value) (Q:VK),Inv X pins σ H s->RelV x v->RelV y u->r x y H Q ->
  wpAny (model X.prog X.w) X.A (f v u) (EP X pins σ Q) X.xe s
noncomputable def o0 (X:Cx) (f:Value) (r:List V->Hp->VK->Prop):Prop:=
 ∀ (pins:List (Addr×Obj)) (s:Shared) (σ:St) (H:Hp) (xs:List V) (us:List Value) (Q:VK),Inv X pins σ H s->Vals xs us->r xs H Q ->
  wpAny (model X.prog X.w) X.A (call f us) (EP X pins σ Q) X.xe s
noncomputable def d07 (X:Cx) (r:V->Hp->(Bool->Hp->Prop)->Prop):Prop:=
 ∀ (pins:List (Addr×Obj)) (s:Shared) (σ:St) (H:Hp) (x:V) (v:Value) (Q:Bool->Hp->Prop),Inv X pins σ H s->RelV x v->r x H Q ->
  wpAny (model X.prog X.w) X.A (truthy v) (TP X pins σ Q) X.xe s
noncomputable def tOp (r:R2) (ta tb:TE):TE:=λσ H Q=>ta σ H λx H1=>tb σ H1 λy H2=>r x y H2 Q
noncomputable def rI (C:Int->Int->Prop) (g:Int->Int->V):R2:=λx y H Q=>∃ i j,x=.int i/\y=.int j/\C i j/\Q (g i j) H
noncomputable def rI0 (g:Int->Int->V):R2:=λx y H Q=>∃ i j,x=.int i/\y=.int j/\Q (g i j) H
section
variable {X:Cx} {a b c:Expr} {ta tb tc:TE} {pos:Pos}
theorem c14 (ha:PE X a ta) (hb:PE X b tb) {pins:List (Addr×Obj)} {s:Shared} {σ:St} {H:Hp} {R:V->V->Hp->Prop} (I:Inv X pins σ H s)
  (h:ta σ H λx H1=>tb σ H1 λy H2=>R x y H2) {Q:Value->Shared->Prop} {f:Value->Value->Sem Value}
  (hf:∀ v u s2 x y H2,Inv X pins σ H2 s2->RelV x v->RelV y u->R x y H2->wpAny (model X.prog X.w) X.A (f v u) Q X.xe s2) :
  wpAny (model X.prog X.w) X.A (eval a X.env) (λv s₁=>wpAny (model X.prog X.w) X.A (eval b X.env) (λu s₂=>wpAny (model X.prog X.w) X.A (f v u) Q X.xe s₂) X.xe s₁) X.xe s:=by
 refine thn (ha pins s σ H _ I h) λv s1 ⟨x,H1,I1,r1,q1⟩=>?_
 refine thn (hb pins s1 σ H1 _ I1 q1) λu s2 ⟨y,H2,I2,r2,q2⟩=>?_
 exact hf v u s2 x y H2 I2 r1 r2 q2
theorem c7s {op:Operator} {r:R2} (ho:OpR X (binaryOp op) r) (ha:PE X a ta) (hb:PE X b tb):PE X (.BinOp a op b pos) (tOp r ta tb):=by
 intro pins s σ H Q I h
 exact wpAny_BinOp (c14 ha hb I h λv u s2 x y H2 I2 rx ry q=>ho pins s2 σ H2 x y v u Q I2 rx ry q)
theorem opI {f:Value->Value->Sem Value} {C:Int->Int->Prop} {g:Int->Int->Int}
  (rule:∀ (i j:Int) (t u:Tok) (s:Shared) (Q:Value->Shared->Prop) (E:Value->Shared->Prop),C i j->Q (.int (g i j) s.toks) { s with toks:=s.toks+1 }->wpAny (model X.prog X.w) X.A (f (.int i t) (.int j u)) Q E s) :
  OpR X f (rI C λi j=>.int (g i j)):=by
 intro pins s σ H x y v u Q I rx ry h
 obtain ⟨i,j,rfl,rfl,hc,q⟩:=h
 obtain ⟨t,rfl⟩:=rx
 obtain ⟨t',rfl⟩:=ry
 exact rule i j t t' s _ _ hc ⟨.int (g i j),H,I.tok _,⟨_,rfl⟩,q⟩
theorem c6h {f:Value->Value->Sem Value} {g:Int->Int->Int}
  (rule:∀ (i j:Int) (t u:Tok) (s:Shared) (Q:Value->Shared->Prop) (E:Value->Shared->Prop),Q (.int (g i j) s.toks) { s with toks:=s.toks+1 }->wpAny (model X.prog X.w) X.A (f (.int i t) (.int j u)) Q E s) :
  OpR X f (rI0 λi j=>.int (g i j)):=by
 intro pins s σ H x y v u Q I rx ry h
 obtain ⟨i,j,rfl,rfl,q⟩:=h
 obtain ⟨t,rfl⟩:=rx
 obtain ⟨t',rfl⟩:=ry
 exact rule i j t t' s _ _ ⟨.int (g i j),H,I.tok _,⟨_,rfl⟩,q⟩
theorem b7k {f:Value->Value->Sem Value} {g:Int->Int->Bool}
  (rule:∀ (i j:Int) (t u:Tok) (s:Shared) (Q:Value->Shared->Prop) (E:Value->Shared->Prop),Q (.bool (g i j)) s->wpAny (model X.prog X.w) X.A (f (.int i t) (.int j u)) Q E s) :
  OpR X f (rI0 λi j=>.bl (g i j)):=by
 intro pins s σ H x y v u Q I rx ry h
 obtain ⟨i,j,rfl,rfl,q⟩:=h
 obtain ⟨t,rfl⟩:=rx
 obtain ⟨t',rfl⟩:=ry
 exact rule i j t t' s _ _ ⟨.bl (g i j),H,I,rfl,q⟩
noncomputable def b32 (i j:Int):Prop:=0<j/\j<1073741824
noncomputable def b92 (i j:Int):Prop:=0<=j/\j<=1000000/\i.natAbs<2 ^ 64
noncomputable def CMul (i j:Int):Prop:=(-(2 ^ 64)<i/\i<2 ^ 64)\/(-(2 ^ 64)<j/\j<2 ^ 64)
theorem CMul.ok {i j:Int} (h:CMul i j):IntMulOk i j:=by
 rcases h with ⟨h1,h2⟩ | ⟨h1,h2⟩
 ·exact .of_left (intBits_le_64 h1 h2)
 ·exact .of_right (intBits_le_64 h1 h2)
theorem c3v:OpR X (binaryOp .Add) (rI0 λi j=>.int (i+j)):=c6h λ_ _ _ _ _ _ _ q=>add_int q
theorem c3w:OpR X (binaryOp .Sub) (rI0 λi j=>.int (i-j)):=c6h λ_ _ _ _ _ _ _ q=>sub_int q
theorem c3h:OpR X (binaryOp .Mult) (rI CMul λi j=>.int (i * j)):=opI λ_ _ _ _ _ _ _ hc q=>mul_int q hc.ok
theorem b6z:OpR X (binaryOp .FloorDiv) (rI b32 λi j=>.int (i / j)):=opI λi j _ _ _ _ _ hc q=>by
 have h1:(0:Int)<j:=hc.1
 have h2:j<1073741824:=hc.2
 exact floordiv_int (by omega) (by rw [Int.fdiv_eq_ediv_of_nonneg i (by omega)];exact q) (.inl (PyProof.noPylong_small (by omega)))
theorem c5s:OpR X (binaryOp .Mod) (rI (λ_ j=>0<j) λi j=>.int (i % j)):=opI λi j _ _ _ _ _ hc q=>by
 have h1:(0:Int)<j:=hc
 exact mod_int' (by omega) (by rw [Int.fmod_eq_emod_of_nonneg i (by omega)];exact q)
theorem c2z:OpR X (binaryOp .Pow) (rI b92 λi j=>.int (i ^ j.toNat)):=opI λ_ _ _ _ _ _ _ hc q=>pow_int_small hc.1 hc.2.1 hc.2.2 q
end
noncomputable def c7z:V->V->Bool
 | .non,.non=>true | .non,.int _=>true | .int _,.non=>true | .non,.bl _=>true | .bl _,.non=>true | .non,.str _=>true | .str _,.non=>true
 | .int _,.int _=>true | .bl _,.bl _=>true | .str _,.str _=>true | .byt _,.byt _=>true
 | .int _,.str _=>true | .str _,.int _=>true | .bl _,.str _=>true | .str _,.bl _=>true
 | _,_=>false
noncomputable def rEq:R2:=λx y H Q=>c7z x y=true/\Q (.bl (decide (x=y))) H
noncomputable def rNe:R2:=λx y H Q=>c7z x y=true/\Q (.bl (!decide (x=y))) H
theorem a76 {i j:Int}:decide (V.int i=V.int j)=(i==j):=by
 rw [Bool.eq_iff_iff]
 simp
theorem b5p {i j:Bool}:decide (V.bl i=V.bl j)=(i==j):=by
 rw [Bool.eq_iff_iff]
 simp
theorem a8e {i j:Str}:decide (V.str i=V.str j)=(i==j):=by
 rw [Bool.eq_iff_iff]
 simp
theorem a9b {i j:Array UInt8}:decide (V.byt i=V.byt j)=(i.toList==j.toList):=by
 rw [Bool.eq_iff_iff]
 cases i
 cases j
 simp
section
variable {X:Cx} {a b c:Expr} {ta tb tc:TE} {pos:Pos}
theorem i5 {pins:List (Addr×Obj)} {σ:St} {H:Hp} {s:Shared} {Q:VK} {k k':Bool} (I:Inv X pins σ H s) (q:Q (.bl k) H) (e:k=k'):EP X pins σ Q (.bool k') s:=by
 subst e
 exact ⟨.bl k,H,I,rfl,q⟩
theorem c8h:OpR X (compareOp .Eq) rEq:=by
 intro pins s σ H x y v u Q I rx ry h
 obtain ⟨hs,q⟩:=h
 cases x with
 | non=>
  cases rx
  cases y with
  | non=>cases ry;exact PySem.EqNone.eq_none_none (i5 I q (by simp))
  | bl j=>cases ry;exact PySem.EqNone.eq_none_bool (i5 I q (by simp))
  | int j=>obtain ⟨t',rfl⟩:=ry;exact PySem.EqNone.eq_none_int (i5 I q (by simp))
  | str j=>obtain ⟨t',rfl⟩:=ry;exact PySem.EqNone.eq_none_str (i5 I q (by simp))
  | _=>exact absurd (show false=true from hs) Bool.false_ne_true
 | bl i=>
  cases rx
  cases y with
  | non=>cases ry;exact PySem.EqNone.eq_bool_none (i5 I q (by simp))
  | bl j=>cases ry;exact eq_bool (i5 I q b5p)
  | str j=>obtain ⟨t',rfl⟩:=ry;exact PySem.EqMixed.eq_bool_str (i5 I q (by simp))
  | _=>exact absurd (show false=true from hs) Bool.false_ne_true
 | int i=>
  obtain ⟨t,rfl⟩:=rx
  cases y with
  | non=>cases ry;exact PySem.EqNone.eq_int_none (i5 I q (by simp))
  | int j=>obtain ⟨t',rfl⟩:=ry;exact eq_int (i5 I q a76)
  | str j=>obtain ⟨t',rfl⟩:=ry;exact PySem.EqMixed.eq_int_str (i5 I q (by simp))
  | _=>exact absurd (show false=true from hs) Bool.false_ne_true
 | str i=>
  obtain ⟨t,rfl⟩:=rx
  cases y with
  | non=>cases ry;exact PySem.EqNone.eq_str_none (i5 I q (by simp))
  | bl j=>cases ry;exact PySem.EqMixed.eq_str_bool (i5 I q (by simp))
  | int j=>obtain ⟨t',rfl⟩:=ry;exact PySem.EqMixed.eq_str_int (i5 I q (by simp))
  | str j=>obtain ⟨t',rfl⟩:=ry;exact eq_str (i5 I q a8e)
  | _=>exact absurd (show false=true from hs) Bool.false_ne_true
 | byt i=>
  obtain ⟨t,rfl⟩:=rx
  cases y with
  | byt j=>obtain ⟨t',rfl⟩:=ry;exact PySem.W.eq_bytes (i5 I q a9b)
  | _=>exact absurd (show false=true from hs) Bool.false_ne_true
 | _=>cases y <;> exact absurd (show false=true from hs) Bool.false_ne_true
theorem d0t:OpR X (compareOp .NotEq) rNe:=by
 intro pins s σ H x y v u Q I rx ry h
 obtain ⟨hs,q⟩:=h
 cases x with
 | non=>
  cases rx
  cases y with
  | non=>cases ry;exact PySem.EqNone.ne_none_none (i5 I q (by simp))
  | bl j=>cases ry;exact PySem.EqNone.ne_none_bool (i5 I q (by simp))
  | int j=>obtain ⟨t',rfl⟩:=ry;exact PySem.EqNone.ne_none_int (i5 I q (by simp))
  | str j=>obtain ⟨t',rfl⟩:=ry;exact PySem.EqNone.ne_none_str (i5 I q (by simp))
  | _=>exact absurd (show false=true from hs) Bool.false_ne_true
 | bl i=>
  cases rx
  cases y with
  | non=>cases ry;exact PySem.EqNone.ne_bool_none (i5 I q (by simp))
  | bl j=>cases ry;exact ne_bool (i5 I q (congrArg not b5p))
  | str j=>obtain ⟨t',rfl⟩:=ry;exact PySem.EqMixed.ne_bool_str (i5 I q (by simp))
  | _=>exact absurd (show false=true from hs) Bool.false_ne_true
 | int i=>
  obtain ⟨t,rfl⟩:=rx
  cases y with
  | non=>cases ry;exact PySem.EqNone.ne_int_none (i5 I q (by simp))
  | int j=>obtain ⟨t',rfl⟩:=ry;exact ne_int (i5 I q (congrArg not a76))
  | str j=>obtain ⟨t',rfl⟩:=ry;exact PySem.EqMixed.ne_int_str (i5 I q (by simp))
  | _=>exact absurd (show false=true from hs) Bool.false_ne_true
 | str i=>
  obtain ⟨t,rfl⟩:=rx
  cases y with
  | non=>cases ry;exact PySem.EqNone.ne_str_none (i5 I q (by simp))
  | bl j=>cases ry;exact PySem.EqMixed.ne_str_bool (i5 I q (by simp))
  | int j=>obtain ⟨t',rfl⟩:=ry;exact PySem.EqMixed.ne_str_int (i5 I q (by simp))
  | str j=>obtain ⟨t',rfl⟩:=ry;exact ne_str (i5 I q (congrArg not a8e))
  | _=>exact absurd (show false=true from hs) Bool.false_ne_true
 | byt i=>
  obtain ⟨t,rfl⟩:=rx
  cases y with
  | byt j=>obtain ⟨t',rfl⟩:=ry;exact PySem.W.ne_bytes (i5 I q (congrArg not a9b))
  | _=>exact absurd (show false=true from hs) Bool.false_ne_true
 | _=>cases y <;> exact absurd (show false=true from hs) Bool.false_ne_true
theorem c7j:OpR X (compareOp .Lt) (rI0 λi j=>.bl (decide (i<j))):=b7k λ_ _ _ _ _ _ _ q=>lt_int q
theorem c7v:OpR X (compareOp .LtE) (rI0 λi j=>.bl (decide (i<=j))):=b7k λ_ _ _ _ _ _ _ q=>le_int q
theorem c9b:OpR X (compareOp .Gt) (rI0 λi j=>.bl (decide (j<i))):=b7k λ_ _ _ _ _ _ _ q=>gt_int q
theorem c8o:OpR X (compareOp .GtE) (rI0 λi j=>.bl (decide (j<=i))):=b7k λ_ _ _ _ _ _ _ q=>ge_int q
theorem b9l {op:CmpOp} {r:R2} (ho:OpR X (compareOp op) r) (ha:PE X a ta) (hb:PE X b tb) (hm:behindInMarks op b=false):PE X (.Compare a [op] [b] pos) (tOp r ta tb):=by
 intro pins s σ H Q I h
 exact wpAny_Compare1 (c14 ha hb I h λv u s2 x y H2 I2 rx ry q=>ho pins s2 σ H2 x y v u Q I2 rx ry q) hm
noncomputable def c8m (t:TE):TT:=λσ H Q=>t σ H λx H'=>∃ k,x=.bl k/\Q k H'
theorem b6y {op:CmpOp} {r:R2} (ho:OpR X (compareOp op) r) (ha:PE X a ta) (hb:PE X b tb) (hm:behindInMarks op b=false):PT X (.Compare a [op] [b] pos) (c8m (tOp r ta tb)):=by
 intro pins s σ H Q I h
 refine wpAny_isTrue_Compare1 (thn (ha pins s σ H _ I h) λv s1 ⟨x,H1,I1,r1,q1⟩=>thn (hb pins s1 σ H1 _ I1 q1) λu s2 ⟨y,H2,I2,r2,q2⟩=>
  thn (ho pins s2 σ H2 x y v u _ I2 r1 r2 q2) λc s3 ⟨z,H3,I3,r3,k,e,q3⟩=>?_) hm
 subst e
 cases r3
 exact wpAny_truthy_bool ⟨H3,I3,q3⟩
noncomputable def c4j (r r':R2) (ta tb tc:TE):TE:=λσ H Q=>ta σ H λx H1=>tb σ H1 λy H2=>r x y H2 λz H3=>∃ k,z=.bl k /\
 (if k=true then tc σ H3 λw' H4=>r' y w' H4 Q else Q (.bl false) H3)
theorem b3m {op op':CmpOp} {r r':R2} (ho:OpR X (compareOp op) r) (ho':OpR X (compareOp op') r') (ha:PE X a ta) (hb:PE X b tb) (hc:PE X c tc)
  (hm:lastMarks [op,op'] [b,c]=false:=by with_unfolding_all rfl):PE X (.Compare a [op,op'] [b,c] pos) (c4j r r' ta tb tc):=by
 intro pins s σ H Q I h
 refine Compare_chain (thn (ha pins s σ H _ I h) λv s1 ⟨x,H1,I1,r1,q1⟩=>chain_link (thn (hb pins s1 σ H1 _ I1 q1) λu s2 ⟨y,H2,I2,r2,q2⟩=>
  thn (ho pins s2 σ H2 x y v u _ I2 r1 r2 q2) λd s3 ⟨z,H3,I3,r3,k,e,q3⟩=>?_)) hm
 subst e
 cases r3
 refine wpAny_truthy_bool ?_
 cases k with
 | false=>exact ite_ff ⟨.bl false,H3,I3,rfl,q3⟩
 | true=>exact ite_tt (chain_last (thn (hc pins s3 σ H3 _ I3 q3) λw' s4 ⟨z',H4,I4,r4,q4⟩=>ho' pins s4 σ H4 y z' u w' Q I4 r2 r4 q4))
noncomputable def b0u (K:PySem.W.Frag) (x:V) (H:Hp) (k:Bool):Prop:=
 match x with
 | .non=>k=false
 | .bl b=>k=b
 | .int i=>k=(i != 0)
 | .str y=>y.length<=sizeLine/\k=((y.length:Int) != 0)
 | .byt y=>y.size<=sizeLine/\k=((y.size:Int) != 0)
 | .ref p=>(∃ xs,SqL K H p xs/\k=!xs.isEmpty)\/(∃ xs,SqT K H p xs/\k=!xs.isEmpty)\/∃ kvs,H p=some (.dK kvs)/\k=!kvs.isEmpty
 | _=>False
theorem a6k {κ:Type} {kvs:List (κ×V)} {vs:List (κ×Value)} (r:KV kvs vs):(!vs.isEmpty)=!kvs.isEmpty:=by
 cases r <;> rfl
theorem a1b {xs:List V} {its:List Value} (r:Vals xs its):(!its.toArray.isEmpty)=!xs.isEmpty:=by
 cases r <;> simp
theorem U4:(sizeLine:Nat)<2 ^ 63:=by rw [sizeLine_eq];decide
theorem a20:d07 X (λx H Q=>∃ k,b0u X.K x H k/\Q k H):=by
 intro pins s σ H x v Q I rx h
 obtain ⟨k,e,q⟩:=h
 have hl:=U4
 have hs:sizeLine=16777216:=sizeLine_eq
 cases x with
 | non=>
  cases rx
  have e':k=false:=e
  subst e'
  exact truthy_none ⟨H,I,q⟩
 | bl b=>
  cases rx
  have e':k=b:=e
  subst e'
  exact wpAny_truthy_bool ⟨H,I,q⟩
 | int i=>
  obtain ⟨t,rfl⟩:=rx
  have e':k=(i != 0):=e
  subst e'
  exact PySem.P.truthy_int ⟨H,I,q⟩
 | str y=>
  obtain ⟨t,rfl⟩:=rx
  obtain ⟨hy,e'⟩:y.length<=sizeLine/\k=((y.length:Int) != 0):=e
  subst e'
  exact PySem.P.truthy_str (by omega) ⟨H,I.tok _,q⟩
 | byt y=>
  obtain ⟨t,rfl⟩:=rx
  obtain ⟨hy,e'⟩:y.size<=sizeLine/\k=((y.size:Int) != 0):=e
  subst e'
  exact PySem.W.truthy_bytes (by omega) ⟨H,I.tok _,q⟩
 | ref p=>
  cases rx
  have e':(∃ xs,SqL X.K H p xs/\k=!xs.isEmpty)\/(∃ xs,SqT X.K H p xs/\k=!xs.isEmpty)\/∃ kvs,H p=some (.dK kvs)/\k=!kvs.isEmpty:=e
  rcases e' with ⟨xs,hx,e'⟩ | ⟨xs,hx,e'⟩ | ⟨kvs,hx,e'⟩
  ·subst e'
   obtain ⟨its,r,pl,hz⟩:=I.list hx
   have hlen:=r.length
   exact wpAny_truthy_list pl.isList (by simp only [List.size_toArray];omega) ⟨H,I.tok _,by rw [a1b r];exact q⟩
  ·subst e'
   obtain ⟨its,r,pl,hz⟩:=I.tuple hx
   have hlen:=r.length
   exact truthy_tuple pl (by simp only [List.size_toArray];omega) ⟨H,I.tok _,by rw [a1b r];exact q⟩
  ·subst e'
   obtain ⟨hz,hS,vs,r,m⟩:kvs.length<=sizeLine/\(p==sysModules)=false/\∃ vs,KV kvs vs/\s.heap.DictOf (j2 X.prog X.w) p vs:=I.hok p _ hx
   have hlen:kvs.length=vs.length:=Paired.length r
   exact wpAny_truthy_dict hS m (by omega) ⟨H,I.tok _,by rw [a6k r];exact q⟩
 | _=>exact (show False from e).elim
theorem b24 (ha:PE X a ta) (he:∀ whole,isTrue a X.env whole=(do let v <- whole;standAt a.pos;holding [v] (truthy v))) :
  PT X a (λσ H Q=>ta σ H λx H'=>∃ k,b0u X.K x H' k/\Q k H'):=by
 intro pins s σ H Q I h
 exact isTrue_plain (thn (ha pins s σ H _ I h) λv s1 ⟨x,H1,I1,r1,q1⟩=>a20 pins s1 σ H1 x v Q I1 r1 q1) (he _)
theorem a6t:OpR X (binaryOp .Add) (λx y H Q=>∃ i j,x=.str i/\y=.str j/\i.length+j.length<=sizeLine/\Q (.str (i++j)) H):=by
 intro pins s σ H x y v u Q I rx ry h
 obtain ⟨i,j,rfl,rfl,hz,q⟩:=h
 obtain ⟨t,rfl⟩:=rx
 obtain ⟨t',rfl⟩:=ry
 exact add_str (λt' tk=>⟨.str (i++j),H,I.tok _,⟨_,rfl⟩,q⟩) hz
theorem O0 {x:V} {us:List Value} (r:Vals [x] us):∃ u,us=[u]/\RelV x u:=by
 cases r with
 | cons r1 r2=>cases r2;exact ⟨_,rfl,r1⟩
theorem a5y {x y:V} {us:List Value} (r:Vals [x,y] us):∃ u w',us=[u,w']/\RelV x u/\RelV y w':=by
 cases r with
 | cons r1 r2=>
  cases r2 with
  | cons r3 r4=>cases r4;exact ⟨_,_,rfl,r1,r3⟩
theorem a9u (hc:X.calm=true):o0 X (.builtin "max") (λxs H Q=>∃ i j,xs=[.int i,.int j]/\Q (.int (if j > i then j else i)) H):=by
 intro pins s σ H xs us Q I r h
 obtain ⟨i,j,rfl,q⟩:=h
 obtain ⟨u,w',rfl,⟨t,rfl⟩,⟨t',rfl⟩⟩:=a5y r
 refine max_two_ints (I.ok.hd hc) λh' tk k=>⟨_,H,I.kept k,?_,q⟩
 by_cases hj:j > i
 ·rw [if_pos hj,if_pos hj];exact ⟨_,rfl⟩
 ·rw [if_neg hj,if_neg hj];exact ⟨_,rfl⟩
theorem a2n:o0 X (.type "int") (λxs H Q=>(∃ i,xs=[.int i]/\Q (.int i) H)\/∃ k,xs=[.bl k]/\Q (.int (if k then 1 else 0)) H):=by
 intro pins s σ H xs us Q I r h
 rcases h with ⟨i,rfl,q⟩ | ⟨k,rfl,q⟩
 ·obtain ⟨u,rfl,t,rfl⟩:=O0 r
  exact call_int_int ⟨.int i,H,I,⟨_,rfl⟩,q⟩
 ·obtain ⟨u,rfl,r1⟩:=O0 r
  cases r1
  exact call_int_bool ⟨.int (if k then 1 else 0),H,I.tok _,⟨_,rfl⟩,q⟩
end
end L2
namespace L2
open PySem PySem.Spec PyProof.Rows
theorem a2m {h:Heap} {dx:Addr} {mA:Str->Option Value} (n:h.Ns1 dx mA):∃ od,h.get? dx=some od/\∀ name,PySem.W.lookIn name od=some (mA name):=by
 obtain ⟨o,es,ep,ho,hd,hk,_,hm⟩:=n
 refine ⟨o,ho,λname=>?_⟩
 have e:=hm name
 unfold nsFind findBy at e
 rw [<- Array.find?_toList] at e
 unfold PySem.W.lookIn
 rw [hd]
 dsimp only
 split
 ·rename_i y q
  rw [q] at e
  exact congrArg some e
 ·rename_i q
  rw [q] at e
  have a:es.toList.any (·.refKey)=false:=by
   rw [List.any_eq_false]
   intro y hy
   obtain ⟨z,t,hkey⟩:=hk y (Array.mem_toList_iff.mp hy)
   simp [DictEntry.refKey,hkey]
  have a':¬ es.toList.any (·.refKey)=true:=by rw [a];exact Bool.false_ne_true
  rw [if_neg a']
  exact congrArg some e
noncomputable def J2 (f:Str) (v:V):List (Str×V)->List (Str×V)
 | []=>[(f,v)]
 | (g,x) :: r=>if g=f then (g,v) :: r else (g,x) :: J2 f v r
theorem W8 (f g:Str) (v:V):∀ fs:List (Str×V),(J2 f v fs).lookup g=if g=f then some v else fs.lookup g
 | []=>by
  show List.lookup g [(f,v)]=_
  by_cases h:g=f
  ·have hb:(g==f)=true:=beq_iff_eq.mpr h
   simp only [List.lookup,hb,if_pos h]
  ·have hb:(g==f)=false:=beq_eq_false_iff_ne.mpr h
   simp only [List.lookup,hb,if_neg h]
 | (k,x) :: r=>by
  have ih:=W8 f g v r
  rw [show J2 f v ((k,x) :: r)=(if k=f then (k,v) :: r else (k,x) :: J2 f v r) from rfl]
  by_cases hk:k=f
  ·rw [if_pos hk]
   by_cases h:g=k
   ·have hb:(g==k)=true:=beq_iff_eq.mpr h
    simp only [List.lookup,hb,if_pos (h.trans hk)]
   ·have hb:(g==k)=false:=beq_eq_false_iff_ne.mpr h
    simp only [List.lookup,hb,if_neg (λe:g=f=>h (e.trans hk.symm))]
  ·rw [if_neg hk]
   by_cases h:g=k
   ·have hb:(g==k)=true:=beq_iff_eq.mpr h
    simp only [List.lookup,hb,if_neg (λe:g=f=>hk (h.symm.trans e))]
   ·have hb:(g==k)=false:=beq_eq_false_iff_ne.mpr h
    simp only [List.lookup,hb]
    exact ih
theorem V0 (f:Str) (v:V):∀ fs:List (Str×V),f∈(J2 f v fs).map (·.1)/\∀ g,g∈fs.map (·.1)->g∈(J2 f v fs).map (·.1)
 | []=>⟨by simp [J2],λg h=>by simp at h⟩
 | (k,x) :: r=>by
  obtain ⟨i1,i2⟩:=V0 f v r
  rw [show J2 f v ((k,x) :: r)=(if k=f then (k,v) :: r else (k,x) :: J2 f v r) from rfl]
  by_cases hk:k=f
  ·rw [if_pos hk]
   subst hk
   exact ⟨by simp,λg h=>by simpa using h⟩
  ·rw [if_neg hk]
   refine ⟨?_,λg h=>?_⟩
   ·rw [List.map_cons]
    exact List.mem_cons_of_mem _ i1
   ·rw [List.map_cons] at h ⊢
    rcases List.mem_cons.mp h with e | e
    ·exact List.mem_cons.mpr (.inl e)
    ·exact List.mem_cons_of_mem _ (i2 g e)
theorem W6 (f:Str) (v:V):∀ fs:List (Str×V),(J2 f v fs).length<=fs.length+1
 | []=>by simp [J2]
 | (k,x) :: r=>by
  have ih:=W6 f v r
  rw [show J2 f v ((k,x) :: r)=(if k=f then (k,v) :: r else (k,x) :: J2 f v r) from rfl]
  by_cases hk:k=f
  ·rw [if_pos hk,List.length_cons,List.length_cons];omega
  ·rw [if_neg hk,List.length_cons,List.length_cons];omega
theorem RelO.some_of {v:V} {o:Option Value} (r:RelO (some v) o):∃ u,o=some u/\RelV v u:=by
 cases o with
 | none=>exact (show False from r).elim
 | some u=>exact ⟨u,rfl,r⟩
noncomputable def A9 (K:PySem.W.Frag) (C:Addr) (f:Str):Prop:=PySem.W.findIn K (.ref C) f=some none
end L2
namespace L2
open PySem PySem.Spec PyProof.Rows
structure Room (q:Bool) (k:Nat) (A:Around):Prop where
 hd:q=false->A.handled=none
 dp:A.depth+3 * k+5<recursionLimit
 un:A.units+16 * k+200<cLine
 gd:A.guards=some []
theorem Room.any {q:Bool} {k:Nat} {A:Around} (r:Room false k A):Room q k A:=⟨λ_=>r.hd rfl,r.dp,r.un,r.gd⟩
theorem Room.mono {q:Bool} {j k:Nat} {A:Around} (r:Room q k A) (h:j<=k):Room q j A:=⟨r.hd,by have:=r.dp;omega,by have:=r.un;omega,r.gd⟩
theorem Room.deeper {q:Bool} {k:Nat} {A:Around} (r:Room q (k+1) A) (env:Env):Room q k (A.deeper env):=
 ⟨r.hd,by have:=r.dp;show A.depth+1+3 * k+5<_;omega,by have:=r.un;show A.units+3+16 * k+200<_;omega,r.gd⟩
theorem a7n {A:Around} {C:Addr} {us:List Value} {kw:List (Str×Value)}:(A.under (.builtin "type.__call__" ⟨.ref C :: us,kw⟩)).depth=A.depth+1:=by
 first | rfl | simp [Around.under,Code.weight,Code.isCreation,Code.isGuard,Code.isCaller,Code.frames,Code.isFrame,guardIds]
theorem a67 {A:Around} {C:Addr} {us:List Value} {kw:List (Str×Value)}:(A.under (.builtin "type.__call__" ⟨.ref C :: us,kw⟩)).units=A.units+1:=by
 first | rfl | simp [Around.under,Code.cUnits,Code.frames,Code.isFrame]
theorem Room.make {q:Bool} {k:Nat} {A:Around} (r:Room q (k+1) A) (C:Addr) (us:List Value) (kw:List (Str×Value)):Room q k (A.under (.builtin "type.__call__" ⟨.ref C :: us,kw⟩)):=
 ⟨r.hd,by have:=r.dp;rw [a7n];omega,by have:=r.un;rw [a67];omega,by have:=r.gd;simp [Around.under,Code.guards,Code.isGuard,guardIds,pushGuards,this]⟩
theorem Room.depth {q:Bool} {k:Nat} {A:Around} (r:Room q k A):A.depth<recursionLimit:=by have:=r.dp;omega
theorem Room.units {q:Bool} {k:Nat} {A:Around} (r:Room q k A):A.units+64<cLine:=by have:=r.un;omega
noncomputable def tNil:TA:=λ_ H Q=>Q [] H
noncomputable def c84 (ta:TE) (tr:TA):TA:=λσ H Q=>ta σ H λx H1=>tr σ H1 λxs H2=>Q (x :: xs) H2
section
variable {X:Cx} {e:Expr} {es:List Expr} {te:TE} {t:TA} {pos:Pos}
theorem a02:PA X [] tNil:=λ_ _ _ _ H Q I h=>Calls.spliced_nil ⟨[],H,I,.nil,h⟩
theorem B7 (ha:PE X e te) (hr:PA X es t) (hs:starEach (e :: es) X.env=(false,eval e X.env) :: starEach es X.env:=by rfl):PA X (e :: es) (c84 te t):=by
 intro pos pins s σ H Q I h
 rw [hs]
 show wpAny _ _ (spliced ((false,eval e X.env) :: backTo pos (starEach es X.env))) _ _ s
 refine Calls.spliced_cons (thn (ha pins s σ H _ I h) λu s1 ⟨x,H1,I1,r1,q1⟩=>?_)
 exact thn (hr pos pins s1 σ H1 _ I1 q1) λus s2 ⟨xs,H2,I2,r2,q2⟩=>⟨x :: xs,H2,I2,.cons r1 r2,q2⟩
noncomputable def d2s (t:TA):TE:=λσ H Q=>t σ H λxs H1=>xs.length<=sizeLine/\∀ p,H1 p=none->Q (.ref p) (upd H1 p (.tup xs))
noncomputable def d16 (t:TA):TE:=λσ H Q=>t σ H λxs H1=>xs.length<=sizeLine/\∀ p,H1 p=none->Q (.ref p) (upd H1 p (.lst xs))
theorem c30 {x1} (h:PA X es t):PE X (.Tuple es x1 pos) (d2s t):=by
 intro pins s σ H Q I hq
 refine wpAny_Tuple_spliced (thn (h pos pins s σ H _ I hq) λus s1 ⟨xs,H1,I1,r,z,q⟩=>⟨by rw [<- r.length];exact z,?_⟩)
 have hf:H1 s1.heap.objs.size=none:=I1.hok.fresh (Nat.le_refl _)
 refine ⟨.ref s1.heap.objs.size,upd H1 s1.heap.objs.size (.tup xs),I1.laid (t':=s1.toks) (λb u e=>Heap.get?_push_of_some _ e) (Nat.le_refl _) ?_,rfl,q _ hf⟩
 exact ⟨z,us,r,⟨_,Heap.get?_push_size _ rfl,rfl,_,rfl,rfl⟩⟩
theorem b25 (h:PA X es t):PE X (.List es pos) (d16 t):=by
 intro pins s σ H Q I hq
 refine wpAny_List_spliced (thn (h pos pins s σ H _ I hq) λus s1 ⟨xs,H1,I1,r,z,q⟩=>⟨by rw [<- r.length];exact z,?_⟩)
 have hf:H1 s1.heap.objs.size=none:=I1.hok.fresh (Nat.le_refl _)
 refine ⟨.ref s1.heap.objs.size,upd H1 s1.heap.objs.size (.lst xs),I1.laid (t':=s1.toks) (λb u e=>Heap.get?_push_of_some _ e) (Nat.le_refl _) ?_,rfl,q _ hf⟩
 exact ⟨z,us,0,r,Heap.get?_push_size _ rfl⟩
end
noncomputable abbrev Sp:=List V->Hp->VK->XK->Prop
structure CXT where
 cx:List Env->Hp->Shared->XK->Value->Shared->Prop
 q:Bool
instance:CoeFun CXT λ_=>List Env->Hp->Shared->XK->Value->Shared->Prop:=⟨CXT.cx⟩
structure Env0 (P:Program) (w:World) (K:PySem.W.Frag) (mg:Str->Option Value) (base:Heap) (A:Around) (outer:List Env) (s:Shared) (H:Hp):Prop where
 frames:A.frames=some outer
 mod:Mod K mg base
 bs:∀ b o,base.get? b=some o->s.heap.get? b=some o/\H b=none
 bsz:base.objs.size<=s.heap.objs.size
 funs:s.heap.FunFrames base outer
 frf:∀ b∈frs outer,H b=none
 hok:HOk P w H s.heap
 bare:AllBare s.gens
noncomputable def CE (outer:List Env) (P:Program) (w:World) (H:Hp) (s:Shared) (Q:VK) (u:Value) (s':Shared):Prop:=
 ∃ v H',s'.os=s.os/\AllBare s'.gens/\Un (frs outer) [] H H' s.heap s'.heap/\HOk P w H' s'.heap/\RelV v u/\Q v H'
noncomputable def CR (CX:CXT) (outer:List Env) (P:Program) (w:World) (H:Hp) (s:Shared) (Q:VK) (E:XK) (r:Result) (s':Shared):Prop:=
 match r with
 | .ok (.ret u)=>CE outer P w H s Q u s'
 | .ok _=>False
 | .error e=>CX outer H s E e s'
structure FnOk (P:Program) (w:World) (K:PySem.W.Frag) (mg:Str->Option Value) (base:Heap) (CX:CXT) (k:Nat) (f:Addr) (fd:FuncData) (ps:List Str) (sp:Sp):Prop where
 len:∀ vs H Q E,sp vs H Q E->vs.length=ps.length
 run:∀ (A:Around) (outer:List Env) (s:Shared) (H:Hp) (args:Args) (us:List Value) (vs:List V) (Q:VK) (E:XK),Room CX.q k A->Env0 P w K mg base A outer s H->BindsTo s fd args (ps.zip us)->Vals vs us->sp vs H Q E ->
  codeAny (model P w) A (.call (.ref f) args) (CR CX outer P w H s Q E) s
theorem FnOk.mono {P:Program} {w:World} {K:PySem.W.Frag} {mg:Str->Option Value} {base:Heap} {CX:CXT} {j k:Nat} {f:Addr} {fd:FuncData} {ps:List Str} {sp:Sp} (F:FnOk P w K mg base CX j f fd ps sp) (h:j<=k) :
  FnOk P w K mg base CX k f fd ps sp:=⟨F.len,λA outer s H args us vs Q E hr=>F.run A outer s H args us vs Q E (hr.mono h)⟩
theorem FnOk.imp {P:Program} {w:World} {K:PySem.W.Frag} {mg:Str->Option Value} {base:Heap} {CX:CXT} {k:Nat} {f:Addr} {fd:FuncData} {ps:List Str} {sp sp':Sp} (F:FnOk P w K mg base CX k f fd ps sp)
  (h:∀ vs H Q E,sp' vs H Q E->sp vs H Q E):FnOk P w K mg base CX k f fd ps sp':=
 ⟨λvs H Q E q=>F.len vs H Q E (h _ _ _ _ q),λA outer s H args us vs Q E hr he hb hv hs=>F.run A outer s H args us vs Q E hr he hb hv (h _ _ _ _ hs)⟩
theorem Env0.make {P:Program} {w:World} {K:PySem.W.Frag} {mg:Str->Option Value} {base:Heap} {A:Around} {outer:List Env} {s:Shared} {H:Hp} (e:Env0 P w K mg base A outer s H) (C:Addr) (us:List Value) (kw:List (Str×Value)) :
  Env0 P w K mg base (A.under (.builtin "type.__call__" ⟨.ref C :: us,kw⟩)) outer s H:=⟨by first | exact e.frames | (simpa [Around.under,Code.envs,Code.isFrame,pushEnvs] using e.frames),e.mod,e.bs,e.bsz,e.funs,e.frf,e.hok,e.bare⟩
section
variable {X:Cx} {pins:List (Addr×Obj)} {σ:St} {H:Hp} {s s':Shared}
theorem Inv.env0 (I:Inv X pins σ H s):Env0 X.prog X.w X.K X.mg X.base X.A X.stack s H:=
 ⟨I.ok.frames,I.ok.mod,I.bs,Nat.le_trans I.ok.bsz I.sz,I.stack,I.stkFree,I.hok,I.bare⟩
theorem Inv.after {Q:VK} {u:Value} (I:Inv X pins σ H s) (h:CE X.stack X.prog X.w H s Q u s'):EP X pins σ Q u s':=by
 obtain ⟨v,H',os,bare,un,hok,r,q⟩:=h
 obtain ⟨hh,g,d,t,os'⟩:=s'
 obtain rfl:os'=s.os:=os
 exact ⟨v,H',I.call (h':=hh) (g':=g) (d':=d) (t':=t) (ch:=[]) un hok bare (λb z=>absurd z (by simp)),r,q⟩
end
noncomputable def b11 (sp:Sp) (dvs:List V) (E:XK) (t:TA):TE:=λσ H Q=>t σ H λvs H1=>sp (vs++dvs) H1 Q E
noncomputable def Binds (K:PySem.W.Frag) (fd:FuncData) (ps:List Str) (ds:List Value):Prop:=
 ∀ (s:Shared) (us:List Value),K.In s.heap->(us++ds).length=ps.length->BindsTo s fd ⟨us,[]⟩ (ps.zip (us++ds))
theorem Binds.all {K:PySem.W.Frag} {fd:FuncData} {ps:List Str} (h:∀ us:List Value,us.length=ps.length->bindArgs fd ⟨us,[]⟩=pure (ps.zip us)):Binds K fd ps []:=λs us _ hl=>by
 rw [List.append_nil] at hl ⊢
 exact .of_eq (h us hl)
noncomputable def D4 (CX:CXT) (X:Cx) (E:XK):Prop:=∀ (pins:List (Addr×Obj)) (σ:St) (H:Hp) (s:Shared) (e:Value) (s':Shared),Inv X pins σ H s->CX X.stack H s E e s'->X.xe e s'
section
variable {X:Cx} {CX:CXT} {k:Nat} {f C:Addr} {fd:FuncData} {ps:List Str} {sp:Sp} {dvs:List V} {ds:List Value} {E:XK} {x m:Str} {p pos apos:Pos} {e o:Expr} {es:List Expr} {ta:TE} {t:TA}
theorem a6w {pins:List (Addr×Obj)} {σ:St} {H:Hp} {s:Shared} {Q:VK} {us:List Value} {vs:List V} (F:FnOk X.prog X.w X.K X.mg X.base CX k f fd ps sp) (hr:Room CX.q k X.A) (hb:Binds X.K fd ps ds) (hd:Vals dvs ds) (hx:D4 CX X E)
  (I:Inv X pins σ H s) (r:Vals vs us) (h:sp (vs++dvs) H Q E):wpAny (model X.prog X.w) X.A (call (.ref f) us) (EP X pins σ Q) X.xe s:=by
 have r2:Vals (vs++dvs) (us++ds):=r.append hd
 have hl:(us++ds).length=ps.length:=by rw [<- r2.length];exact F.len _ _ _ _ h
 refine wpAny_call (codeAny_mono (F.run X.A X.stack s H ⟨us,[]⟩ (us++ds) (vs++dvs) Q E hr I.env0 (hb s us I.kIn hl) r2 h) λr s' hq=>?_)
 cases r with
 | error e=>exact hx pins σ H s e s' I hq
 | ok fl=>
  cases fl with
  | ret u=>exact I.after hq
  | next=>exact False.elim hq
  | brk=>exact False.elim hq
  | cont=>exact False.elim hq
theorem b9p (F:FnOk X.prog X.w X.K X.mg X.base CX k f fd ps sp) (hr:Room CX.q k X.A) (hg:Gl X x) (hm:X.mg x=some (.ref f)) (hk:PySem.W.keepIn X.K (.ref f)=true) (hb:Binds X.K fd ps ds) (hd:Vals dvs ds) (hx:D4 CX X E)
  (ha:PA X (e :: es) t) (hdb:(x==("__debug__" : Str))=false:=by decide) (he:starEach (e :: es) X.env=(false,eval e X.env) :: starEach es X.env:=by rfl) (hpl:(backTo pos (starEach es X.env)).any (·.1)=false:=by rfl) :
  PE X (.Call (.Name x p) (e :: es) [] pos) (b11 sp dvs E t):=by
 intro pins s σ H Q I h
 refine wpAny_Call_Name_kw (P7 I hg hm ?_ hdb)
 refine PySem.W.callWith_K (h₀:=X.base) I.ok.mod.kin hk (thn (ha pos pins s σ H _ I h) λus s1 ⟨vs,H1,I1,r,q⟩=>⟨I1.kIn,?_⟩) he hpl
 exact a6w F hr hb hd hx I1 r q
theorem b35 (F:FnOk X.prog X.w X.K X.mg X.base CX k f fd ps sp) (hr:Room CX.q k X.A) (hg:Gl X x) (hm:X.mg x=some (.ref f)) (hk:PySem.W.keepIn X.K (.ref f)=true) (hb:Binds X.K fd ps ds) (hd:Vals dvs ds) (hx:D4 CX X E)
  (hdb:(x==("__debug__" : Str))=false:=by decide):PE X (.Call (.Name x p) [] [] pos) (b11 sp dvs E tNil):=by
 intro pins s σ H Q I h
 refine wpAny_Call_Name_kw (P7 I hg hm ?_ hdb)
 exact PySem.W.callWith_K0 I.kIn hk (a6w (us:=[]) F hr hb hd hx I .nil h)
end
structure FnScope (N P:List Str) (sc:Scope):Prop where
 kind:sc.kind=.function
 co:sc.isCoroutine=false
 gen:sc.isGenerator=false
 nd:N.Nodup
 pre:N.take P.length=P
 par:∀ x∈P,sc.names.lookup x=some .local\/sc.names.lookup x=some .cell
 nofree:∀ y∈sc.names,y.2≠.free
theorem a1z {kindOf:Str->Option NameKind} {x:Str}:∀ {binds:List (Str×Value)} {m:Str->Option Value},(∀ v,(x,v)∉binds)->bindL kindOf binds m x=m x
 | [],_,_=>rfl
 | (n,v) :: r,m,h=>by
  unfold bindL
  rw [a1z λw hw=>h w (List.mem_cons_of_mem _ hw)]
  split
  ·have:x≠n:=by rintro rfl;exact h v List.mem_cons_self
   simp [this]
  ·rfl
theorem a2g {kindOf:Str->Option NameKind} {x:Str}:∀ {binds:List (Str×Value)} {m:Str->Option Value},(∀ v,(x,v)∉binds)->bindC kindOf binds m x=m x
 | [],_,_=>rfl
 | (n,v) :: r,m,h=>by
  unfold bindC
  rw [a2g λw hw=>h w (List.mem_cons_of_mem _ hw)]
  split
  ·rfl
  ·have:x≠n:=by rintro rfl;exact h v List.mem_cons_self
   simp [this]
theorem a2k {kindOf:Str->Option NameKind} {x:Str} {v:Value}:∀ {P:List Str} {vs:List Value} {i:Nat} {m:Str->Option Value},P.Nodup->P[i]?=some x->vs[i]?=some v->kindOf x=some .local ->
  bindL kindOf (P.zip vs) m x=some v
 | [],_,_,_,_,h,_,_=>by simp at h
 | _ :: _,[],_,_,_,_,h,_=>by simp at h
 | p :: P,w :: vs,0,m,nd,h1,h2,hk=>by
  simp at h1 h2;subst h1;subst h2
  show bindL kindOf ((p,w) :: P.zip vs) m p=_
  unfold bindL
  rw [a1z λv hv=>(List.nodup_cons.mp nd).1 (List.of_mem_zip hv).1,if_pos hk]
  simp
 | p :: P,w :: vs,i+1,m,nd,h1,h2,hk=>by
  show bindL kindOf ((p,w) :: P.zip vs) m x=_
  unfold bindL
  exact a2k (i:=i) (List.nodup_cons.mp nd).2 (by simpa using h1) (by simpa using h2) hk
theorem a2d {kindOf:Str->Option NameKind} {x:Str} {v:Value}:∀ {P:List Str} {vs:List Value} {i:Nat} {m:Str->Option Value},P.Nodup->P[i]?=some x->vs[i]?=some v->kindOf x≠some .local ->
  bindC kindOf (P.zip vs) m x=some v
 | [],_,_,_,_,h,_,_=>by simp at h
 | _ :: _,[],_,_,_,_,h,_=>by simp at h
 | p :: P,w :: vs,0,m,nd,h1,h2,hk=>by
  simp at h1 h2;subst h1;subst h2
  show bindC kindOf ((p,w) :: P.zip vs) m p=_
  unfold bindC
  rw [a2g λv hv=>(List.nodup_cons.mp nd).1 (List.of_mem_zip hv).1,if_neg hk]
  simp
 | p :: P,w :: vs,i+1,m,nd,h1,h2,hk=>by
  show bindC kindOf ((p,w) :: P.zip vs) m x=_
  unfold bindC
  exact a2d (i:=i) (List.nodup_cons.mp nd).2 (by simpa using h1) (by simpa using h2) hk
noncomputable def start (N:List Str) (vs:List V):St:=vs.map some++List.replicate (N.length-vs.length) none
noncomputable def Z9 (CX:CXT) (P:Program) (w:World) (K:PySem.W.Frag) (mg:Str->Option Value) (base:Heap) (N:List Str) (qual:Str) (scope:Scope) (f:Addr) (cd:Value) (A:Around) (outer:List Env) (s:Shared) (H:Hp) (E:XK):Cx where
 prog:=P
 w:=w
 K:=K
 mg:=mg
 base:=base
 A:=A.deeper (envOfC qual scope s.heap.objs.size f cd)
 N:=N
 s₀:=s
 H₀:=H
 env:=envOfC qual scope s.heap.objs.size f cd
 outer:=outer
 stack:=envOfC qual scope s.heap.objs.size f cd :: outer
 ex:=[]
 calm:=!CX.q
 fn:=λ_=>true
 pn:=[]
 xe:=λe s'=>wpAny (model P w) (A.deeper (envOfC qual scope s.heap.objs.size f cd)) (leaving (envOfC qual scope s.heap.objs.size f cd) e) (λ_ s''=>CX outer H s E e s'') (λe' s''=>CX outer H s E e' s'') s'
theorem a4h {sc:Scope} {n:Nat} {x:Str} (h:sc.names.lookup x=some .cell):∃ c,(cellsFrom n sc.names []).lookup x=some c:=by
 have q:=PySem.W.cellsFrom_some sc.names n [] (.inl h)
 exact Option.isSome_iff_exists.mp q
theorem b0j {CX:CXT} {P:Program} {w:World} {K:PySem.W.Frag} {mg:Str->Option Value} {base:Heap} {N ps:List Str} {qual:Str} {scope:Scope} {f:Addr} {cd:Value} {A:Around} {outer:List Env} {s s1:Shared} {H:Hp} {E:XK} {us:List Value} {vs:List V}
  (S:FnScope N ps scope) (hd:CX.q=false->A.handled=none) (e0:Env0 P w K mg base A outer s H) (hl:vs.length=ps.length) (r:Vals vs us)
  (x:InCallC s s.heap.objs.size (bindL (envOfC qual scope s.heap.objs.size f cd).kindOf (ps.zip us) λ_=>none) (cellsFrom (s.heap.objs.size+1) scope.names []) (bindC (envOfC qual scope s.heap.objs.size f cd).kindOf (ps.zip us) λ_=>none) s1) :
  Inv (Z9 CX P w K mg base N qual scope f cd A outer s H E) [] (start N vs) H s1:=by
 have hpl:ps.length<=N.length:=by have:=congrArg List.length S.pre;rw [List.length_take] at this;omega
 obtain ⟨h1,tk,rfl,hk⟩:=x.done
 have noA:∀ b:Addr,b∉(Z9 CX P w K mg base N qual scope f cd A outer s H E).ex:=λb z=>absurd (show b∈([]:List Addr) from z) (by simp)
 refine ⟨⟨e0.mod,S.kind,rfl,rfl,Nat.le_refl _,λy z c h1 h2=>?_,λy hy=>?_,λy c _ h=>?_,λz=>hd (by have z:(!CX.q)=true:=z;simpa using z),Around.frames_deeper e0.frames,.inr ⟨rfl,rfl⟩,λb z=>absurd z (noA b),e0.bs,e0.bsz,λb _ _=>noA b,λb z=>absurd z (noA b),e0.funs,e0.frf⟩,
  rfl,e0.bare,Un.kept hk,⟨_,x.toInCall.ns,λi y v h1 h2 h3=>?_⟩,λy c h=>⟨_,x.cell y c h⟩,e0.hok.fresh (Nat.le_refl _),λy c h=>?_,λp hp=>absurd (show p∈([]:List (Addr×Obj)) from hp) (by simp),e0.hok.kept hk,?_⟩
 ·exact name_of_addr x.apart (PySem.mem_of_lookup h1) (PySem.mem_of_lookup h2)
 ·have hy:scope.names.lookup y=some .cell\/scope.names.lookup y=some .free:=hy
  rcases hy with hy | hy
  ·exact a4h hy
  ·exact absurd rfl (S.nofree _ (PySem.mem_of_lookup hy))
 ·exact Nat.le_of_lt (x.above y c (PySem.mem_of_lookup h))
 ·have hi:i<vs.length:=by
   unfold start at h2
   by_cases hi:i<vs.length
   ·exact hi
   ·rw [List.getElem?_append_right (by simpa using hi)] at h2
    rw [List.getElem?_replicate] at h2
    split at h2 <;> cases h2
  have ha:vs[i]?=some v:=by
   unfold start at h2
   rw [List.getElem?_append_left (by simpa using hi),List.getElem?_map] at h2
   cases e:vs[i]? with
   | none=>rw [e] at h2;cases h2
   | some a=>rw [e] at h2;cases h2;rfl
  obtain ⟨u,hu,rv⟩:=r.get ha
  have hp:ps[i]?=some y:=by
   rw [<- S.pre,List.getElem?_take_of_lt (by omega)];exact h1
  have ndP:ps.Nodup:=by rw [<- S.pre];exact S.nd.sublist (List.take_sublist _ _)
  refine ⟨u,rv,?_⟩
  rcases S.par y (List.mem_of_getElem? hp) with k | k
  ·exact .inl ⟨k,a2k ndP hp hu k⟩
  ·obtain ⟨c,e⟩:=a4h (n:=s.heap.objs.size+1) k
   refine .inr ⟨.inl k,c,e,?_⟩
   have q:=x.cell y c e
   rw [a2d ndP hp hu (by show scope.names.lookup y≠_;rw [k];decide)] at q
   exact q
 ·exact e0.hok.fresh (Nat.le_of_lt (x.above y c (PySem.mem_of_lookup h)))
 ·unfold start
  show _=N.length
  rw [List.length_append,List.length_map,List.length_replicate]
  omega
theorem c03 {CX:CXT} {P:Program} {w:World} {K:PySem.W.Frag} {mg:Str->Option Value} {base:Heap} {k:Nat} {f:Addr} {name qual:Str} {params:Arguments} {body:List Stmt} {scope:Scope} {dV kV doc pm cdv ct oc:Value} {an od:Option Addr}
  {osl:Array (Option Value)} {N ps:List Str} {sp:Sp} (lk:K.lookup f=some ⟨oc,od,.func (PySem.W.fnOf name qual params body scope dV kV doc pm an cdv ct),osl⟩) (hcd:PySem.W.codeIn K cdv qual=true) (S:FnScope N ps scope)
  (len:∀ vs H Q E,sp vs H Q E->vs.length=ps.length)
  (hbody:∀ (A:Around) (outer:List Env) (s:Shared) (H:Hp) (vs:List V) (Q:VK) (E:XK),Room CX.q k (A.deeper (envOfC qual scope s.heap.objs.size f cdv))->sp vs H Q E ->
   ∃ t,PSs (Z9 CX P w K mg base N qual scope f cdv A outer s H E) body t/\t { nx:=λ_ H'=>Q .non H',rt:=Q } (start N vs) H) :
  FnOk P w K mg base CX (k+1) f (PySem.W.fnOf name qual params body scope dV kV doc pm an cdv ct) ps sp:=by
 refine ⟨len,λA outer s H args us vs Q E hr e0 hb r hsp=>?_⟩
 have hl:=len _ _ _ _ hsp
 have KX:K.In s.heap:=e0.mod.kin.keeps λb o e=>(e0.bs b o e).1
 have lim:s.heap.NoLimit:=e0.mod.nolimit.keeps λb o e=>(e0.bs b o e).1
 have hkind:∀ y∈ps.zip us,scope.names.lookup y.1=some .local\/(scope.names.lookup y.1=some .cell/\((cellsFrom (s.heap.objs.size+1) scope.names []).lookup y.1).isSome=true):=λ⟨n,v⟩ hy=>by
  rcases S.par n (List.of_mem_zip hy).1 with q | q
  ·exact .inl q
  ·exact .inr ⟨q,PySem.W.cellsFrom_some _ _ _ (.inl q)⟩
 refine codeAny_call_function hr.depth (KX _ _ lk) rfl S.co S.gen rfl (PySem.W.codeRec_of KX hcd) (hb _ _ _ _ ?_)
 refine wpAny_newFunctionEnv_cells S.kind hkind λenv he s1 x=>?_
 subst he
 refine ⟨lim.keeps x.toInCall.keep,codeAny_func ?_⟩
 obtain ⟨t,ht,hq⟩:=hbody A outer s H vs Q E (hr.deeper _) hsp
 have I:Inv (Z9 CX P w K mg base N qual scope f cdv A outer s H E) [] (start N vs) H s1:=b0j S hr.hd e0 hl r x
 refine wpAny_mono (ht [] s1 (start N vs) H _ I hq) (λfl s' hs=>?_) λe s' hs=>hs
 have fin:∀ {σ':St} {H':Hp} {v:V} {u:Value},Inv (Z9 CX P w K mg base N qual scope f cdv A outer s H E) [] σ' H' s'->RelV v u->Q v H'->CE outer P w H s Q u s':=
  λ{σ' H' v u} J rv q=>⟨v,H',J.os,J.bare,J.base,J.hok,rv,q⟩
 cases fl with
 | ret u=>
  obtain ⟨v,σ',H',J,rv,q⟩:=hs
  exact fin J rv q
 | next=>
  obtain ⟨σ',H',J,q⟩:=hs
  exact fin (v:=V.non) (u:=Value.none) J rfl q
 | brk=>
  obtain ⟨_,_,_,q⟩:=hs
  exact False.elim q
 | cont=>
  obtain ⟨_,_,_,q⟩:=hs
  exact False.elim q
end L2
namespace L2
open PySem PySem.Spec PyProof.Rows
section
variable {X:Cx} {x:Str} {p pos:Pos} {e:Expr} {es:List Expr} {t:TA} {id T:String} {r:List V->Hp->VK->Prop}
noncomputable def tCB (r:List V->Hp->VK->Prop) (t:TA):TE:=λσ H Q=>t σ H λvs H1=>r vs H1 Q
theorem a38 (hc:o0 X (.builtin id) r) (hg:Gl X x) (hm:X.mg x=none) (hv:bootBuiltins x=some (.builtin id)) (ha:PA X (e :: es) t) (hn:x ≠ "__name__":=by decide) (hdb:(x==("__debug__" : Str))=false:=by decide)
  (he:starEach (e :: es) X.env=(false,eval e X.env) :: starEach es X.env:=by rfl) (hpl:(backTo pos (starEach es X.env)).any (·.1)=false:=by rfl):PE X (.Call (.Name x p) (e :: es) [] pos) (tCB r t):=by
 intro pins s σ H Q I h
 refine wpAny_Call_Name_kw (J8 I hg hm hv ?_ hn hdb)
 exact PyProof.Rows.callWith_builtin1 (thn (ha pos pins s σ H _ I h) λus s1 ⟨vs,H1,I1,r1,q1⟩=>hc pins s1 σ H1 vs us Q I1 r1 q1) he hpl
theorem a9w (hc:o0 X (.type T) r) (hg:Gl X x) (hm:X.mg x=none) (hv:bootBuiltins x=some (.type T)) (ha:PA X (e :: es) t) (hn:x ≠ "__name__":=by decide) (hdb:(x==("__debug__" : Str))=false:=by decide)
  (he:starEach (e :: es) X.env=(false,eval e X.env) :: starEach es X.env:=by rfl) (hpl:(backTo pos (starEach es X.env)).any (·.1)=false:=by rfl):PE X (.Call (.Name x p) (e :: es) [] pos) (tCB r t):=by
 intro pins s σ H Q I h
 refine wpAny_Call_Name_kw (J8 I hg hm hv ?_ hn hdb)
 exact PyProof.Rows.callWith_type1 (thn (ha pos pins s σ H _ I h) λus s1 ⟨vs,H1,I1,r1,q1⟩=>hc pins s1 σ H1 vs us Q I1 r1 q1) he hpl
end
end L2
namespace HT
open PySem PyProof.Rows
section
open PySem.SeqAt
open PySem.AutoSeq1 (wpAny_loadPart')
open PySem.MeetsSeq PySem.MeetsSeq2 PySem.MeetsSeq3
end
section
variable {prog:Program} {w:World} {A:Around} {E:Value->Shared->Prop} {s:Shared}
theorem cat_tup {t b:Addr} {vs ws:List Value} {Q:Value->Shared->Prop} (ht:IsTup s.heap t vs.toArray) (hb:IsTup s.heap b ws.toArray) (hv:vs≠[])
  (h1:ws=[]->Q (.ref t) s) (h2:ws≠[]->Q (.ref s.heap.objs.size) { s with heap:=s.heap.push { cls:=.type "tuple",data:=.seq (vs++ws).toArray } })
  (hsz:vs.length+ws.length<=sizeLine):wpAny (model prog w) A (binaryOp .Add (.ref t) (.ref b)) Q E s:=by
 obtain ⟨⟨cls,dd,data,sl⟩,ho,hc,n,hd⟩:=id ht
 obtain ⟨⟨cls2,dd2,data2,sl2⟩,ho2,hc2,n2,hd2⟩:=id hb
 simp only at hc hd hc2 hd2
 subst hc hd hc2 hd2
 have e:vs.toArray++ws.toArray=(vs++ws).toArray:=by simp
 by_cases hw:ws=[]
 ·exact concat_meets ⟨_,ho,rfl⟩ ⟨_,ho2,rfl⟩ noFill_tuple_add seq_tuple_add PySem.F.slot_tuple_add PySem.F.entry_tuple_add (PySem.F.args_tuple_add_2 _ _)
   (tuple_addW1 t b vs.toArray ws.toArray n n2 dd dd2 sl sl2 (by simpa using hv) (by simp [hw])) ⟨ho,ho2,h1 hw⟩
 ·refine concat_meets ⟨_,ho,rfl⟩ ⟨_,ho2,rfl⟩ noFill_tuple_add seq_tuple_add PySem.F.slot_tuple_add PySem.F.entry_tuple_add (PySem.F.args_tuple_add_2 _ _)
   (tuple_addW2 t b vs.toArray ws.toArray n n2 dd dd2 sl sl2 (by simpa using hv) (by simpa using hw) (by rw [List.size_toArray,List.size_toArray];exact hsz)) ⟨ho,ho2,?_⟩
  rw [e]
  exact h2 hw
noncomputable def sIx (n d:Nat):Option Int->Nat
 | none=>d
 | some v=>if v<0 then (v+(n:Int)).toNat else min v.toNat n
theorem sIx_none (n d:Nat):sIx n d none=d:=rfl
theorem c5h (n d:Nat) (hd:d<=n) (o:Option Int):sIx n d o<=n:=by
 cases o with
 | none=>exact hd
 | some v=>
  show (if v<0 then (v+(n:Int)).toNat else min v.toNat n)<=n
  by_cases hv:v<0
  ·rw [if_pos hv];omega
  ·rw [if_neg hv];exact Nat.min_le_right _ _
theorem a8b (v:Int) (n d:Nat):(if v<0 then max (v+(n:Int)) 0 else min v (n:Int))=((sIx n d (some v):Nat):Int):=by
 show (if v<0 then max (v+(n:Int)) 0 else min v (n:Int))=(((if v<0 then (v+(n:Int)).toNat else min v.toNat n):Nat):Int)
 by_cases hv:v<0
 ·simp only [if_pos hv];omega
 ·simp only [if_neg hv];omega
theorem a64 (lo hi:Option Int) (n:Nat):Builtin.Slice.sliceAdjust lo hi 1 (n:Int)=(((sIx n 0 lo:Nat):Int),((sIx n n hi:Nat):Int)):=by
 have h1:¬ ((1:Int)<0):=by omega
 unfold Builtin.Slice.sliceAdjust
 simp only [h1,if_false]
 refine Prod.ext ?_ ?_
 ·cases lo with
  | none=>rfl
  | some v=>exact a8b v n 0
 ·cases hi with
  | none=>rfl
  | some v=>exact a8b v n n
theorem a6p (i j:Nat):Builtin.Slice.slicePlaces (i:Int) (j:Int) 1=j-i:=by
 unfold Builtin.Slice.slicePlaces
 have h1:(1:Int) > 0:=by omega
 simp only [h1,if_true,Int.ediv_one]
 split <;> omega
theorem a0m {v:Value} {o:Option Int} {Q:Option Int->Shared->Prop} (p:IsPart v o) (h:Q o s):wpAny (model prog w) A (Builtin.Slice.slicePartIndex v) Q E s:=by
 cases p with
 | none=>exact slicePart_none h
 | int i t=>exact slicePart_int h
theorem sliceApplied_gen {sl:Addr} {vl vu:Value} {lo hi:Option Int} {n:Nat} {Q:Int×Int×Nat->Shared->Prop} (hs:s.heap.IsSliceOf sl vl vu .none) (pl:IsPart vl lo) (pu:IsPart vu hi)
  (h:Q (((sIx n 0 lo:Nat):Int),1,sIx n n hi-sIx n 0 lo) s):wpAny (model prog w) A (Builtin.Slice.sliceApplied (.ref sl) (pure (n:Int))) Q E s:=by
 obtain ⟨os,hos,hcs,hds⟩:=id hs
 unfold Builtin.Slice.sliceApplied Builtin.Slice.sliceFields
 refine wpAny_bind (wpAny_bind (wpAny_field hos hds (x:=vl) rfl (wpAny_bind (wpAny_field hos hds (x:=vu) rfl (wpAny_bind (wpAny_field hos hds (x:=.none) rfl (wpAny_pure ?_)))))))
 refine wpAny_bind (slicePart_none ?_)
 show wpAny _ _ (if ((1:Int)==0)=true then _ else _) _ _ s
 rw [if_neg (by decide)]
 refine wpAny_bind (a0m pl (wpAny_bind (a0m pu (wpAny_bind (wpAny_pure ?_)))))
 show wpAny _ _ (match Builtin.Slice.sliceAdjust lo hi 1 (n:Int) with | (lo,hi)=>pure (lo,(1:Int),Builtin.Slice.slicePlaces lo hi 1)) _ _ s
 rw [a64 lo hi n]
 show wpAny _ _ (pure (((sIx n 0 lo:Nat):Int),(1:Int),Builtin.Slice.slicePlaces ((sIx n 0 lo:Nat):Int) ((sIx n n hi:Nat):Int) 1)) _ _ s
 rw [a6p]
 exact wpAny_pure h
theorem b4r (xs:Array Value) (i k:Nat):((List.range k).filterMap λ(m:Nat)=>xs[((i:Int)+(m:Int) * 1).toNat]?).toArray=((xs.toList.drop i).take k).toArray:=by
 have e:(λ(m:Nat)=>xs[((i:Int)+(m:Int) * 1).toNat]?)=λm=>xs[i+m]?:=by
  funext m
  have:((i:Int)+(m:Int) * 1).toNat=i+m:=by omega
  rw [this]
 rw [e]
 have:=pick_run xs i k
 rw [List.filterMap_map] at this
 have e2:((λx=>xs[x]?) ∘ λx=>i+x)=λm=>xs[i+m]?:=rfl
 rw [e2] at this
 rw [this]
theorem getItem_tuple_cut {t sl:Addr} {items:Array Value} {vl vu:Value} {lo hi:Option Int} {Q:Value->Shared->Prop} (ht:IsTup s.heap t items) (hs:s.heap.IsSliceOf sl vl vu .none) (pl:IsPart vl lo) (pu:IsPart vu hi)
  (hw:¬ (sIx items.size 0 lo=0/\sIx items.size items.size hi=items.size))
  (h:Q (.ref s.heap.objs.size) { s with heap:=s.heap.push { cls:=.type "tuple",data:=.seq ((items.toList.drop (sIx items.size 0 lo)).take (sIx items.size items.size hi-sIx items.size 0 lo)).toArray } })
  (hsz:items.size<=sizeLine):wpAny (model prog w) A (getItem (.ref t) (.ref sl)) Q E s:=by
 have htake:sizeOk (.seq ((items.toList.drop (sIx items.size 0 lo)).take (sIx items.size items.size hi-sIx items.size 0 lo)).toArray):=by
  show ((items.toList.drop (sIx items.size 0 lo)).take (sIx items.size items.size hi-sIx items.size 0 lo)).toArray.size<=sizeLine
  rw [List.size_toArray,List.length_take,List.length_drop,Array.length_toList]
  omega
 have hj:sIx items.size items.size hi<=items.size:=c5h _ _ (Nat.le_refl _) hi
 obtain ⟨os,hos,hcs,hds⟩:=id hs
 have hTs:s.TypeIs (.ref sl) "slice":=⟨os,hos,hcs⟩
 unfold getItem
 try with_reducible refine wpAny_holding ?_
 first | refine wpAny_bind (wpAny_pure ?_) | skip
 refine wpAny_bind (wpAny_sequenceKey ht.typeIs (by decide) ?_)
 refine wpAny_bind (wpAny_callSpecial?_slot (name:=Str.ofString "__getitem__") ht.typeIs PyProof.Rows.slot_tuple_getitem
  (wpAny_call_entry PyProof.Rows.slot_tuple_getitem ht.typeIs entry_tuple_getitem ?_ (args_tuple_getitem _ _)))
 show wpAny _ _ (Builtin.Tuple.tupleItemsOf (.ref t) >>= _) _ _ s
 refine wpAny_bind (tupleItemsOf_ ht ?_)
 refine wpAny_bind (wpAny_typeOf hTs ?_)
 rw [if_pos (by decide)]
 refine wpAny_bind (sliceApplied_gen hs pl pu ?_)
 have hno:¬ ((((sIx items.size 0 lo:Nat):Int)==0&&(1:Int)==1&&(sIx items.size items.size hi-sIx items.size 0 lo)==items.size)=true):=by
  intro q
  rw [Bool.and_eq_true,Bool.and_eq_true] at q
  have q1:((sIx items.size 0 lo:Nat):Int)=0:=eq_of_beq q.1.1
  have q2:sIx items.size items.size hi-sIx items.size 0 lo=items.size:=eq_of_beq q.2
  exact hw ⟨by omega,by omega⟩
 show wpAny _ _ (if (((sIx items.size 0 lo:Nat):Int)==0&&(1:Int)==1&&(sIx items.size items.size hi-sIx items.size 0 lo)==items.size)=true then _ else _) _ _ s
 rw [if_neg hno,b4r]
 first
  | exact wpAny_bind (m:=Builtin.Tuple.tupleExact _) (wpAny_newObj_type (wpAny_pure ⟨_,rfl,wpAny_pure h⟩) htake)
  | exact wpAny_bind (m:=Builtin.Tuple.tupleExact _) (wpAny_newObj_type (wpAny_bind (wpAny_pure (wpAny_pure ⟨_,rfl,wpAny_pure h⟩))) htake)
  | exact wpAny_bind (wpAny_bind (m:=Builtin.Tuple.tupleExact _) (wpAny_newObj_type (wpAny_pure (wpAny_pure ⟨_,rfl,wpAny_pure h⟩)) htake))
  | exact wpAny_bind (wpAny_bind (m:=Builtin.Tuple.tupleExact _) (wpAny_newObj_type (wpAny_pure ⟨_,rfl,wpAny_pure h⟩) htake))
end
end HT
namespace L2
open PySem PySem.Spec PyProof.Rows
noncomputable abbrev TO:=St->Hp->(Option Int->Hp->Prop)->Prop
noncomputable def PO (X:Cx) (e:Option Expr) (t:TO):Prop:=
 ∀ (pins:List (Addr×Obj)) (s:Shared) (σ:St) (H:Hp) (Q:Option Int->Hp->Prop),Inv X pins σ H s->t σ H Q ->
  wpAny (model X.prog X.w) X.A (evalPart e X.env) (λu s'=>∃ o H',Inv X pins σ H' s'/\IsPart u o/\Q o H') X.xe s
noncomputable def tNoPart:TO:=λ_ H Q=>Q none H
noncomputable def c6p (t:TE):TO:=λσ H Q=>t σ H λx H1=>∃ i,x=.int i/\Q (some i) H1
section
variable {X:Cx} {e:Expr} {te:TE} {lo hi:Option Expr} {tl th:TO} {pos p2:Pos}
theorem b9j:PO X none tNoPart:=by
 intro pins s σ H Q I h
 rw [evalPart_none]
 exact wpAny_pure ⟨none,H,I,.none,h⟩
theorem b7n (h:PE X e te):PO X (some e) (c6p te):=by
 intro pins s σ H Q I hw
 rw [evalPart_some]
 refine thn (h pins s σ H _ I hw) λu s1 ⟨x,H1,I1,r1,q1⟩=>?_
 obtain ⟨i,rfl,q⟩:=q1
 obtain ⟨t,rfl⟩:=r1
 exact ⟨some i,H1,I1,.int i t,q⟩
noncomputable def SlR (X:Cx) (r:V->Option Int->Option Int->Hp->VK->Prop):Prop:=
 ∀ (pins:List (Addr×Obj)) (s:Shared) (σ:St) (H:Hp) (x:V) (v vl vu:Value) (lo hi:Option Int) (sl:Addr) (Q:VK),Inv X pins σ H s->RelV x v->s.heap.IsSliceOf sl vl vu .none->IsPart vl lo->IsPart vu hi->r x lo hi H Q ->
  ∃ T id,typeLookup (.type T) "__getitem__" = pure (some (.builtin id))/\s.TypeIs v T/\wpAny (model X.prog X.w) X.A (getItem v (.ref sl)) (EP X pins σ Q) X.xe s
noncomputable def tSl (r:V->Option Int->Option Int->Hp->VK->Prop) (te:TE) (tl th:TO):TE:=λσ H Q=>te σ H λx H1=>tl σ H1 λl H2=>th σ H2 λu H3=>r x l u H3 Q
theorem b2i {r:V->Option Int->Option Int->Hp->VK->Prop} (hr:SlR X r) (he:PE X e te) (hl:PO X lo tl) (hu:PO X hi th):PE X (.Subscript e (.Slice lo hi none p2) pos) (tSl r te tl th):=by
 intro pins s σ H Q I h
 refine Subscript_ (thn (he pins s σ H _ I h) λv s1 ⟨x,H1,I1,r1,q1⟩=>?_)
 refine wpAny_Slice (thn (hl pins s1 σ H1 _ I1 q1) λvl s2 ⟨l,H2,I2,pl,q2⟩=>thn (hu pins s2 σ H2 _ I2 q2) λvu s3 ⟨u,H3,I3,pu,q3⟩=>?_)
 rw [evalPart_none]
 refine wpAny_pure ?_
 have I4:Inv X pins σ H3 { s3 with heap:=s3.heap.push { cls:=.type "slice",data:=.fields #[vl,vu,.none] } }:=I3.kept (t':=s3.toks) λb ob q=>Heap.get?_push_of_some _ q
 obtain ⟨T,id,hT,ht,hg⟩:=hr pins { s3 with heap:=s3.heap.push { cls:=.type "slice",data:=.fields #[vl,vu,.none] } } σ H3 x v vl vu l u s3.heap.objs.size Q I4 r1 (Heap.IsSliceOf.new ..) pl pu q3
 show wpAny (model X.prog X.w) X.A (subscriptTail e (.Slice lo hi none p2) v (.ref s3.heap.objs.size)) (EP X pins σ Q) X.xe { s3 with heap:=s3.heap.push { cls:=.type "slice",data:=.fields #[vl,vu,.none] } }
 exact tail_any (ops:=[.ref s3.heap.objs.size,v]) ht hT hg (by with_unfolding_all rfl)
noncomputable def a6d (xs:List V) (lo hi:Option Int):List V:=(xs.drop (HT.sIx xs.length 0 lo)).take (HT.sIx xs.length xs.length hi-HT.sIx xs.length 0 lo)
theorem W5 (xs:List V) (lo hi:Option Int):(a6d xs lo hi).length<=xs.length:=by
 unfold a6d
 rw [List.length_take,List.length_drop]
 omega
noncomputable def d2t (K:PySem.W.Frag):V->Option Int->Option Int->Hp->VK->Prop:=λx lo hi H Q=>∃ a xs,x=.ref a/\SqT K H a xs /\
 ¬ (HT.sIx xs.length 0 lo=0/\HT.sIx xs.length xs.length hi=xs.length)/\∀ p,H p=none->Q (.ref p) (upd H p (.tup (a6d xs lo hi)))
theorem c34:SlR X (d2t X.K):=by
 intro pins s σ H x v vl vu lo hi sl Q I rx hs pl pu h
 obtain ⟨a,xs,rfl,hx,hw,q⟩:=h
 cases rx
 obtain ⟨its,r,ht,hz⟩:=I.tuple hx
 have hlen:its.toArray.size=xs.length:=by rw [List.size_toArray];exact r.length.symm
 refine ⟨"tuple",_,PyProof.Rows.slot_tuple_getitem.lookup,ht.typeIs,?_⟩
 refine HT.getItem_tuple_cut ht hs pl pu (by rw [hlen];exact hw) ?_ (by rw [hlen];exact hz)
 rw [hlen]
 refine ⟨.ref s.heap.objs.size,_,I.laid (t':=s.toks) (o:=.tup (a6d xs lo hi)) (λb ob q=>Heap.get?_push_of_some _ q) (Nat.le_refl _) ?_,rfl,q _ (I.hok.fresh (Nat.le_refl _))⟩
 exact ⟨Nat.le_trans (W5 xs lo hi) hz,_,(r.drop (HT.sIx xs.length 0 lo)).take (HT.sIx xs.length xs.length hi-HT.sIx xs.length 0 lo),TupN.new _ _⟩
noncomputable def d0g (K:PySem.W.Frag):R2:=λx y H Q=>∃ a b xs ys,x=.ref a/\y=.ref b/\SqT K H a xs/\SqT K H b ys/\xs≠[]/\xs.length+ys.length<=sizeLine /\
 (ys=[]->Q (.ref a) H)/\(ys≠[]->∀ p,H p=none->Q (.ref p) (upd H p (.tup (xs++ys))))
theorem Vals.nil_iff {xs:List V} {us:List Value} (r:Vals xs us):us=[]↔xs=[]:=by
 cases r with
 | nil=>simp
 | cons _ _=>simp
theorem b8k:OpR X (binaryOp .Add) (d0g X.K):=by
 intro pins s σ H x y v u Q I rx ry h
 obtain ⟨a,b,xs,ys,rfl,rfl,ha,hb,hx,hz,q1,q2⟩:=h
 cases rx
 cases ry
 obtain ⟨its,r1,p1,_⟩:=I.tuple ha
 obtain ⟨its2,r2,p2,_⟩:=I.tuple hb
 refine HT.cat_tup p1 p2 (λz=>hx (r1.nil_iff.mp z)) (λz=>⟨.ref a,H,I,rfl,q1 (r2.nil_iff.mp z)⟩) (λz=>?_) (by rw [<- r1.length,<- r2.length];exact hz)
 refine ⟨.ref s.heap.objs.size,_,I.laid (t':=s.toks) (o:=.tup (xs++ys)) (λb ob q=>Heap.get?_push_of_some _ q) (Nat.le_refl _) ?_,rfl,q2 (λw=>z (r2.nil_iff.mpr w)) _ (I.hok.fresh (Nat.le_refl _))⟩
 exact ⟨by rw [List.length_append];exact hz,_,r1.append r2,TupN.new _ _⟩
end
end L2
namespace L2
open PySem PySem.Spec PyProof.Rows
noncomputable def ixN (n:Nat) (i:Int):Option Nat:=if 0<=i then (if i<n then some i.toNat else none) else if -(n:Int)<=i then some (i+n).toNat else none
noncomputable def atI {α:Type} (xs:List α) (i:Int):Option α:=(ixN xs.length i).bind λj=>xs[j]?
theorem a9c {n:Nat} {i:Int} {j:Nat} (h:ixN n i=some j):seqIndex? i n=some j/\j<n/\-(n:Int)<=i/\i<n:=by
 unfold ixN at h
 by_cases h0:0<=i
 ·rw [if_pos h0] at h
  by_cases h1:i<n
  ·rw [if_pos h1] at h
   have e:i.toNat=j:=Option.some.inj h
   exact ⟨by rw [seqIndex_of h0 h1,e],by omega,by omega,h1⟩
  ·rw [if_neg h1] at h;cases h
 ·rw [if_neg h0] at h
  by_cases h1:-(n:Int)<=i
  ·rw [if_pos h1] at h
   have e:(i+n).toNat=j:=Option.some.inj h
   exact ⟨by rw [seqIndex_neg (by omega) h1,e],by omega,h1,by omega⟩
  ·rw [if_neg h1] at h;cases h
theorem a71 {α:Type} {xs:List α} {i:Int} {v:α} (h:atI xs i=some v):∃ j,seqIndex? i xs.length=some j/\xs[j]?=some v/\j<xs.length/\-(xs.length:Int)<=i/\i<xs.length:=by
 unfold atI at h
 cases e:ixN xs.length i with
 | none=>rw [e] at h;cases h
 | some j=>
  rw [e] at h
  obtain ⟨h1,h2,h3,h4⟩:=a9c e
  exact ⟨j,h1,h,h2,h3,h4⟩
theorem a29 {α:Type} {xs:List α} {j:Nat} {v:α} (h:xs[j]?=some v):atI xs (j:Int)=some v:=by
 have hj:j<xs.length:=(List.getElem?_eq_some_iff.mp h).1
 have e:ixN xs.length (j:Int)=some j:=by
  unfold ixN
  rw [if_pos (by omega),if_pos (by omega)];simp
 unfold atI;rw [e];exact h
noncomputable def a2w (b:Expr):Prop:=∀ o i,subscripted b false o i=operate [o,i] (getItem o i)
noncomputable def IxR (X:Cx) (r:R2):Prop:=
 ∀ (value slice:Expr) (pins:List (Addr×Obj)) (s:Shared) (σ:St) (H:Hp) (x y:V) (v u:Value) (Q:VK),Inv X pins σ H s->RelV x v->RelV y u->r x y H Q ->
  subscripted slice false v u=operate [v,u] (getItem v u)->wpAny (model X.prog X.w) X.A (subscriptTail value slice v u) (EP X pins σ Q) X.xe s
noncomputable def MtR (X:Cx) (id:String) (r:V->List V->Hp->VK->Prop):Prop:=
 ∀ (pins:List (Addr×Obj)) (s:Shared) (σ:St) (H:Hp) (x:V) (xs:List V) (v:Value) (us:List Value) (Q:VK),Inv X pins σ H s->RelV x v->Vals xs us->r x xs H Q ->
  wpAny (model X.prog X.w) X.A (call (.builtin id) (v :: us)) (EP X pins σ Q) X.xe s
section
variable {X:Cx} {a b:Expr} {ta tb:TE} {pos:Pos}
theorem c9q {r:R2} (hr:IxR X r) (ha:PE X a ta) (hb:PE X b tb) (hs:a2w b):PE X (.Subscript a b pos) (tOp r ta tb):=by
 intro pins s σ H Q I h
 exact Subscript_ (c14 ha hb I h λv u s2 x y H2 I2 rx ry q=>hr a b pins s2 σ H2 x y v u Q I2 rx ry q (hs _ _))
noncomputable def d14 (K:PySem.W.Frag):R2:=λx y H Q=>∃ p xs i v,x=.ref p/\y=.int i/\SqL K H p xs/\atI xs i=some v/\Q v H
noncomputable def d06 (K:PySem.W.Frag):R2:=λx y H Q=>∃ p xs i v,x=.ref p/\y=.int i/\SqT K H p xs/\atI xs i=some v/\Q v H
theorem b68:IxR X (d14 X.K):=by
 intro value slice pins s σ H x y v u Q I rx ry h hs
 obtain ⟨p,xs,i,z,rfl,rfl,hq,he,q⟩:=h
 cases rx
 obtain ⟨t,rfl⟩:=ry
 obtain ⟨its,r,pl,hz⟩:=I.list hq
 obtain ⟨j,h1,h2,h3,h4,h5⟩:=a71 he
 obtain ⟨w,ew,rw'⟩:=r.get h2
 have hl:=r.length
 have hn:=U4
 have fin:EP X pins σ Q w s:=⟨z,H,I,rw',q⟩
 by_cases h0:0<=i
 ·have hj:i.toNat=j:=by
   rw [seqIndex_of h0 h5] at h1
   exact Option.some.inj h1
  exact item_listR pl.isList h0 (by omega) (by rw [hj];simpa using ew) fin hs
 ·have hj:(i+(its.toArray.size:Int)).toNat=j:=by
   rw [seqIndex_neg (by omega) h4] at h1
   rw [List.size_toArray,<- hl]
   exact Option.some.inj h1
  exact subscriptTail_builtinR (x:=w) pl.isList.typeIs slot_list_getitem.lookup
   (wpAny_getItem_list_neg (Q:=λr s'=>r=w/\EP X pins σ Q r s') pl.isList (by omega) (by rw [List.size_toArray] <;> omega) (by omega) (by rw [hj];simpa using ew) ⟨rfl,fin⟩) hs
theorem c3b:IxR X (d06 X.K):=by
 intro value slice pins s σ H x y v u Q I rx ry h hs
 obtain ⟨p,xs,i,z,rfl,rfl,hq,he,q⟩:=h
 cases rx
 obtain ⟨t,rfl⟩:=ry
 obtain ⟨its,r,pl,hz⟩:=I.tuple hq
 obtain ⟨j,h1,h2,h3,h4,h5⟩:=a71 he
 obtain ⟨w,ew,rw'⟩:=r.get h2
 have hl:=r.length
 have hn:=U4
 have fin:EP X pins σ Q w s:=⟨z,H,I,rw',q⟩
 exact subscriptTail_builtinR (x:=w) pl.typeIs slot_tuple_getitem.lookup
  (getItem_tuple (j:=j) (Q:=λr s'=>r=w/\EP X pins σ Q r s') pl (by omega) (by omega) (by rw [List.size_toArray,<- hl];exact h1) (by simpa using ew) ⟨rfl,fin⟩) hs
theorem a6o (its:List Value) (n j:Nat) (u:Value):Obj.mapSeq (·.setIfInBounds j u) { cls:=.type "list",data:=.seq its.toArray n }={ cls:=.type "list",data:=.seq (its.set j u).toArray n }:=by
 simp [Obj.mapSeq]
theorem Inv.lst {pins:List (Addr×Obj)} {σ:St} {H:Hp} {s:Shared} {p:Addr} {xs:List V} (I:Inv X pins σ H s) (h:H p=some (.lst xs)) :
  ∃ (its:List Value) (n:Nat),Vals xs its/\s.heap.get? p=some { cls:=.type "list",data:=.seq its.toArray n }/\xs.length<=sizeLine:=by
 obtain ⟨z,its,n,r,e⟩:=I.hok p _ h
 exact ⟨its,n,r,e,z⟩
theorem Inv.lstUpd {pins:List (Addr×Obj)} {σ:St} {H:Hp} {s:Shared} {p:Addr} {xs ys:List V} {its its':List Value} {n n':Nat} {f:Obj->Obj} (I:Inv X pins σ H s) (h:H p=some (.lst xs))
  (ho:s.heap.get? p=some { cls:=.type "list",data:=.seq its.toArray n }) (hf:f { cls:=.type "list",data:=.seq its.toArray n }={ cls:=.type "list",data:=.seq its'.toArray n' }) (r:Vals ys its') (hz:ys.length<=sizeLine) (t:Nat) :
  Inv X pins σ (upd H p (.lst ys)) { s with heap:=s.heap.update p f,toks:=t }:=by
 have e:(s.heap.update p f).get? p=some { cls:=.type "list",data:=.seq its'.toArray n' }:=by
  rw [Heap.get?_update_self f ho (by rw [hf] <;> rfl),hf]
 refine I.write (x:=p) (e:=p) (by rw [h];trivial) (.inl rfl) (λb u hb q=>(Heap.get?_update_other _ _ (Ne.symm hb)).trans q) ⟨_,e⟩ ?_
 exact ⟨hz,its',n',r,e⟩
noncomputable def rSetL:V->V->V->Hp->(Hp->Prop)->Prop:=λo i v H Q=>∃ p xs k j,o=.ref p/\i=.int k/\H p=some (.lst xs)/\ixN xs.length k=some j/\Q (upd H p (.lst (xs.set j v)))
theorem b13:c2o X rSetL:=by
 intro pins s σ H o i v ov iv u Q I ro ri rv h
 obtain ⟨p,xs,k,j,rfl,rfl,hp,hj,q⟩:=h
 cases ro
 obtain ⟨t,rfl⟩:=ri
 obtain ⟨its,n,r,ho,hz⟩:=I.lst hp
 obtain ⟨h1,h2,h3,h4⟩:=a9c hj
 have hl:=r.length
 have hn:=U4
 have I':Inv X pins σ (upd H p (.lst (xs.set j v))) { s with heap:=s.heap.update p (Obj.mapSeq (·.setIfInBounds j u)) }:=
  I.lstUpd hp ho (a6o its n j u) (r.set rv j) (by rw [List.length_set];exact hz) s.toks
 by_cases h0:0<=k
 ·have hk:k.toNat=j:=by
   rw [seqIndex_of h0 h4] at h1
   exact Option.some.inj h1
  exact PySem.W.ki_setAt ho h0 (by omega) (by rw [List.size_toArray,<- hl];exact h4) (by rw [hk];exact ⟨_,I',q⟩)
 ·have hk:(k+(its.toArray.size:Int)).toNat=j:=by
   rw [seqIndex_neg (by omega) h3] at h1
   rw [List.size_toArray,<- hl]
   exact Option.some.inj h1
  exact PySem.W.ki_setBack ho (by omega) (by rw [List.size_toArray,<- hl];exact h3) (by omega) (by rw [hk];exact ⟨_,I',q⟩)
theorem a3c (lo hi:Option Int) (n:Nat):(sliceBounds lo hi none n).1=((HT.sIx n 0 lo:Nat):Int)/\(sliceBounds lo hi none n).2.1=((HT.sIx n n hi:Nat):Int)/\(sliceBounds lo hi none n).2.2=1:=by
 refine ⟨?_,?_,rfl⟩
 ·cases lo with
  | none=>simp [sliceBounds,HT.sIx]
  | some i=>
   simp only [sliceBounds,HT.sIx,Option.getD_none,show (1:Int) > 0 by decide,if_true]
   by_cases h:i<0
   ·simp only [h,if_true] <;> omega
   ·simp only [h,if_false] <;> omega
 ·cases hi with
  | none=>simp [sliceBounds,HT.sIx]
  | some i=>
   simp only [sliceBounds,HT.sIx,Option.getD_none,show (1:Int) > 0 by decide,if_true]
   by_cases h:i<0
   ·simp only [h,if_true] <;> omega
   ·simp only [h,if_false] <;> omega
theorem a1o (its:List Value) (lo hi:Option Int):slicePick its.toArray lo hi none=((its.drop (HT.sIx its.length 0 lo)).take (HT.sIx its.length its.length hi-HT.sIx its.length 0 lo)).toArray:=by
 obtain ⟨h1,h2,h3⟩:=a3c lo hi its.toArray.size
 unfold slicePick
 rw [h1,h2,h3]
 simp only [sliceRange_one,pick_run,List.size_toArray] <;> rfl
noncomputable def d1o (K:PySem.W.Frag):V->Option Int->Option Int->Hp->VK->Prop:=λx lo hi H Q=>∃ a xs,x=.ref a/\SqL K H a xs/\∀ p,H p=none->Q (.ref p) (upd H p (.lst (a6d xs lo hi)))
theorem b7p:SlR X (d1o X.K):=by
 intro pins s σ H x v vl vu lo hi sl Q I rx hs pl pu h
 obtain ⟨a,xs,rfl,hx,q⟩:=h
 cases rx
 obtain ⟨its,r,ht,hz⟩:=I.list hx
 have hlen:=r.length
 refine ⟨"list",_,slot_list_getitem.lookup,ht.isList.typeIs,?_⟩
 refine wpAny_getItem_list_slice ht.isList hs pl pu .none (by simp) ?_ (by rw [List.size_toArray] <;> omega)
 rw [a1o,<- hlen]
 refine ⟨.ref s.heap.objs.size,_,I.laid (t':=s.toks) (o:=.lst (a6d xs lo hi)) (λb ob q=>Heap.get?_push_of_some _ q) (Nat.le_refl _) ?_,rfl,q _ (I.hok.fresh (Nat.le_refl _))⟩
 exact ⟨Nat.le_trans (W5 xs lo hi) hz,_,0,(r.drop (HT.sIx xs.length 0 lo)).take (HT.sIx xs.length xs.length hi-HT.sIx xs.length 0 lo),Heap.get?_push_size _ rfl⟩
theorem a35:o0 X (.builtin "len") (λxs H Q=>∃ p ys,xs=[.ref p]/\(SqL X.K H p ys\/SqT X.K H p ys)/\Q (.int ys.length) H):=by
 intro pins s σ H xs us Q I r h
 obtain ⟨p,ys,rfl,hq,q⟩:=h
 obtain ⟨u,rfl,rx⟩:=O0 r
 cases rx
 have hn:=U4
 rcases hq with hq | hq
 ·obtain ⟨its,r',pl,hz⟩:=I.list hq
  have hlen:=r'.length
  exact Calls.call_len_list pl.isList (by simp only [List.size_toArray] <;> omega) ⟨.int ys.length,H,I.tok _,⟨s.toks+1,by rw [List.size_toArray,hlen]⟩,q⟩
 ·obtain ⟨its,r',pl,hz⟩:=I.tuple hq
  have hlen:=r'.length
  exact len_tuple pl (by simp only [List.size_toArray] <;> omega) ⟨.int ys.length,H,I.tok _,⟨s.toks+1,by rw [List.size_toArray,hlen]⟩,q⟩
theorem a2y:o0 X (.builtin "len") (λxs H Q=>∃ z,xs=[.str z]/\z.length<=sizeLine/\Q (.int z.length) H):=by
 intro pins s σ H xs us Q I r h
 obtain ⟨z,rfl,hz,q⟩:=h
 obtain ⟨u,rfl,t,rfl⟩:=O0 r
 have hn:=U4
 exact len_str (by omega) ⟨.int z.length,H,I.tok _,⟨_,rfl⟩,q⟩
theorem O3:o0 X (.type "tuple") (λxs H Q=>∃ p ys,xs=[.ref p]/\((SqL X.K H p ys/\∀ l,H l=none->Q (.ref l) (upd H l (.tup ys)))\/(SqT X.K H p ys/\Q (.ref p) H))):=by
 intro pins s σ H xs us Q I r h
 obtain ⟨p,ys,rfl,h⟩:=h
 obtain ⟨u,rfl,rx⟩:=O0 r
 cases rx
 rcases h with ⟨hq,q⟩ | ⟨hq,q⟩
 ·obtain ⟨its,r',pl,hz⟩:=I.list hq
  have hlen:=r'.length
  refine call_tuple_list pl.isList (λh' kp=>?_) (by simp only [List.size_toArray] <;> omega)
  have I1:Inv X pins σ H { s with heap:=h' }:=I.kept (t':=s.toks) kp
  have I2:Inv X pins σ (upd H h'.objs.size (.tup ys)) { s with heap:=h'.push { cls:=.type "tuple",data:=.seq its.toArray } }:=
   I1.laid (t':=s.toks) (λb o e=>Heap.get?_push_of_some _ e) (Nat.le_refl _) (show ObjOk X.prog X.w _ _ _ (.tup ys) from ⟨hz,its,r',TupN.new _ _⟩)
  exact ⟨.ref h'.objs.size,_,I2,rfl,q _ (I1.hok.fresh (Nat.le_refl _))⟩
 ·obtain ⟨its,r',pl,hz⟩:=I.tuple hq
  exact call_tuple_same pl ⟨.ref p,H,I,rfl,q⟩
noncomputable def tyV (K:PySem.W.Frag) (T:String) (x:V) (H:Hp):Prop:=match x with
 | .str _=>T = "str"
 | .int _=>T = "int"
 | .ref p=>(T = "list"/\∃ xs,SqL K H p xs)\/(T = "tuple"/\∃ o,K.lookup p=some o/\o.cls=.type "tuple"/\o.dict=none) \/
   (T = "dict"/\((∃ kvs,H p=some (.dK kvs))\/∃ kvs,H p=some (.dT kvs)))\/(T = "set"/\∃ S n,H p=some (.set S n))\/(T = "tuple"/\∃ xs,Rd H p (.tup xs))
 | _=>False
theorem c41 {pins:List (Addr×Obj)} {σ:St} {H:Hp} {s:Shared} {T:String} {x:V} {v:Value} (I:Inv X pins σ H s) (r:RelV x v) (ty:tyV X.K T x H) :
  s.TypeIs v T/\∀ a,v=.ref a->∃ ob,s.heap.get? a=some ob/\ob.dict=none:=by
 cases x with
 | str z=>
  obtain ⟨t,rfl⟩:=r
  cases (show T = "str" from ty)
  exact ⟨typeIs_str s z t,λ_ e=>nomatch e⟩
 | int i=>
  obtain ⟨t,rfl⟩:=r
  cases (show T = "int" from ty)
  exact ⟨typeIs_int s i t,λ_ e=>nomatch e⟩
 | ref p=>
  cases r
  rcases ty with ⟨rfl,xs,hq⟩ | ⟨rfl,o,hk,hc,hd⟩ | ⟨rfl,hk⟩ | ⟨rfl,S,n,hk⟩ | ⟨rfl,xs,hk⟩
  ·obtain ⟨its,_,pl,_⟩:=I.list hq
   refine ⟨pl.isList.typeIs,λa e=>?_⟩
   cases e
   obtain ⟨o,n,e,c,hd,_⟩:=pl
   exact ⟨o,e,hd⟩
  ·refine ⟨⟨o,I.kIn p o hk,hc⟩,λa e=>?_⟩
   cases e
   exact ⟨o,I.kIn _ o hk,hd⟩
  ·have z:∃ o,s.heap.get? p=some o/\o.ExactDict:=by
    rcases hk with ⟨kvs,hk⟩ | ⟨kvs,hk⟩
    ·obtain ⟨_,_,_,_,o,_,_,e,ex,_⟩:=I.hok p _ hk
     exact ⟨o,e,ex⟩
    ·obtain ⟨_,_,_,_,o,_,_,e,ex,_⟩:=I.hok p _ hk
     exact ⟨o,e,ex⟩
   obtain ⟨o,e,ex⟩:=z
   refine ⟨⟨o,e,ex.1⟩,λa e2=>?_⟩
   cases e2
   exact ⟨o,e,ex.2.1⟩
  ·obtain ⟨o,_,_,_,e,ex,_⟩:=I.hok p _ hk
   refine ⟨⟨o,e,ex.1⟩,λa e2=>?_⟩
   cases e2
   exact ⟨o,e,ex.2.1⟩
  ·obtain ⟨_,its,_,o,e,c,n,_,hd⟩:=(show ObjOk X.prog X.w H s.heap p (.tup xs) from hk.ok I.hok)
   exact ⟨⟨o,e,c⟩,λa e2=>by cases e2;exact ⟨o,e,hd⟩⟩
 | _=>exact False.elim ty
noncomputable def tBM (K:PySem.W.Frag) (T:String) (r:V->List V->Hp->VK->Prop) (to:TE) (t:TA):TE:=λσ H Q=>to σ H λx H1=>tyV K T x H1/\t σ H1 λxs H2=>r x xs H2 Q
variable {o e:Expr} {es:List Expr} {to:TE} {t:TA} {name:Str} {apos cpos:Pos} {T id:String} {r:V->List V->Hp->VK->Prop}
theorem c1k (pa:PlainAttrs T) (slot:Slot T name id) (hty:typeOf (.builtin id)=pure (.type "method_descriptor")) (hm:MtR X id r) (ho:PE X o to) (ha:PA X (e :: es) t)
  (hbase:attributeBase o name X.env (eval o X.env)=eval o X.env:=by rfl)
  (hfew:((backTo cpos (starEach (e :: es) X.env)).all (λx=>!x.1)&&(backToKw cpos (keywordEach [] X.env)).all (λx=>x.1.isSome)
   && decide ((e :: es).length+([]:List Keyword).length+(if ([]:List Keyword).isEmpty then 0 else 1)<30))=true:=by rfl)
  (hline:(apos.endLine==cpos.line)=true:=by rfl) (hs:starEach (e :: es) X.env=(false,eval e X.env) :: starEach es X.env:=by rfl) (hplain:(backTo cpos (starEach es X.env)).any (·.1)=false:=by rfl) :
  PE X (.Call (.Attribute o name apos) (e :: es) [] cpos) (tBM X.K T r to t):=by
 intro pins s σ H Q I h
 refine wpAny_Call_method_late hbase hfew hline rfl (thn (ho pins s σ H _ I h) λv s1 ⟨x,H1,I1,r1,ty,q1⟩=>?_)
 obtain ⟨h1,h2⟩:=c41 I1 r1 ty
 refine ⟨T,id,pa,slot,hty,h1,h2,?_⟩
 have hA:=ha cpos pins s1 σ H1 _ I1 q1
 rw [hs] at hA ⊢
 refine Calls.callWith_builtin (by show (false||(backTo cpos (starEach es X.env)).any (·.1))=false;rw [hplain] <;> rfl) (Calls.evalArgs_plain ?_)
 exact thn hA λus s2 ⟨vs,H2,I2,r2,q2⟩=>hm pins s2 σ H2 x vs v us Q I2 r1 r2 q2
end
end L2
namespace L2
open PySem PySem.Spec PyProof.Rows
noncomputable def MtM (X:Cx) (id:String) (r:V->List V->Hp->VK->Prop):Prop:=
 ∀ (pins:List (Addr×Obj)) (s:Shared) (σ:St) (H:Hp) (x:V) (xs:List V) (v:Value) (us:List Value) (Q:VK),Inv X pins σ H s->RelV x v->Vals xs us->r x xs H Q ->
  wpAny (model X.prog X.w) X.A (call (.builtin id) (v :: us)) (EP X pins σ Q) X.xe s
theorem Vals.one:∀ {x:V} {us:List Value},Vals [x] us->∃ u,us=[u]/\RelV x u
 | _,_,.cons r .nil=>⟨_,rfl,r⟩
theorem Vals.rep {xs:List V} {us:List Value} (h:Vals xs us):∀ k:Nat,Vals (List.replicate k xs).flatten (List.replicate k us).flatten
 | 0=>.nil
 | k+1=>by
  rw [List.replicate_succ,List.replicate_succ,List.flatten_cons,List.flatten_cons]
  exact Vals.append h (Vals.rep h k)
theorem V7 (its:List Value):∀ (k:Nat) (acc:List Value),
  List.foldl (λx1 x2=>x1++x2) acc.toArray (List.replicate k its.toArray)=(acc++(List.replicate k its).flatten).toArray
 | 0,acc=>by simp
 | k+1,acc=>by
  have e:acc.toArray++its.toArray=(acc++its).toArray:=by simp
  have e2:(acc++its)++(List.replicate k its).flatten=acc++(List.replicate (k+1) its).flatten:=by
   rw [List.replicate_succ,List.flatten_cons,List.append_assoc]
  rw [<- e2,<- V7 its k (acc++its),<- e,List.replicate_succ,List.foldl_cons]
section
variable {X:Cx} {pins:List (Addr×Obj)} {σ:St} {H:Hp} {s:Shared} {l b:Addr} {xs ys zs:List V}
theorem Inv.lset {its its':List Value} {n:Nat} {f:Array Value->Array Value} {t':Nat} (I:Inv X pins σ H s) (hH:H l=some (.lst xs))
  (e:s.heap.get? l=some { cls:=.type "list",data:=.seq its.toArray n }) (hf:f its.toArray=its'.toArray) (hv:Vals ys its') (hz:ys.length<=sizeLine) :
  Inv X pins σ (upd H l (.lst ys)) { s with heap:=s.heap.update l (Obj.mapSeq f),toks:=t' }:=by
 have q:=PySem.IsL.update e f
 rw [hf] at q
 refine I.write (x:=l) (e:=l) (by rw [hH];exact trivial) (.inl rfl) (λb' u hb hu=>(Heap.get?_update_other s.heap (Obj.mapSeq f) (Ne.symm hb)).trans hu) ⟨_,q⟩ ?_
 exact ⟨hz,its',_,hv,q⟩
theorem Inv.lnew {its:List Value} {t':Nat} (I:Inv X pins σ H s) (hv:Vals ys its) (hz:ys.length<=sizeLine) :
  Inv X pins σ (upd H s.heap.objs.size (.lst ys)) { s with heap:=s.heap.push { cls:=.type "list",data:=.seq its.toArray },toks:=t' }:=
 I.laid (λ_ _ q=>Heap.get?_push_of_some _ q) (Nat.le_refl _) ⟨hz,its,0,hv,Heap.get?_push_size _ rfl⟩
theorem Inv.fresh (I:Inv X pins σ H s):H s.heap.objs.size=none:=I.hok.fresh (Nat.le_refl _)
theorem Inv.lstM (I:Inv X pins σ H s) (hH:H l=some (.lst xs)):xs.length<=sizeLine/\∃ (its:List Value) (n:Nat),Vals xs its/\xs.length=its.length/\s.heap.get? l=some { cls:=.type "list",data:=.seq its.toArray n }:=by
 obtain ⟨z,its,n,r,e⟩:=I.hok l _ hH
 exact ⟨z,its,n,r,r.length,e⟩
theorem b55 {n:Nat} (h:n<=sizeLine):Builtin.List.listTooLong n=false:=by
 unfold Builtin.List.listTooLong
 exact decide_eq_false (by omega)
end
section
variable {X:Cx}
noncomputable def rAppend:V->List V->Hp->VK->Prop:=λx vs H Q=>∃ l xs y,x=.ref l/\vs=[y]/\H l=some (.lst xs)/\xs.length<sizeLine/\Q .non (upd H l (.lst (xs++[y])))
theorem M0:MtM X "list.append" rAppend:=by
 intro pins s σ H x vs v us Q I rx rv h
 obtain ⟨l,xs,y,rfl,rfl,hH,hz,q⟩:=h
 cases rx
 obtain ⟨u,rfl,ru⟩:=rv.one
 obtain ⟨z,its,n,r,hl,e⟩:=I.lstM hH
 refine call_meets F.slot_list_append ⟨_,e,rfl⟩ F.entry_list_append (F.args_list_append_2 _ _) (PySem.list_append l its.toArray n u (by rw [List.size_toArray];omega)) ⟨e,?_⟩
 refine ⟨.non,_,I.lset (its':=its++[u]) hH e (by simp) (r.append (.cons ru .nil)) ?_,rfl,q⟩
 rw [List.length_append,List.length_singleton]
 omega
noncomputable def rCat:R2:=λx y H Q=>∃ l b xs zs,x=.ref l/\y=.ref b/\H l=some (.lst xs)/\H b=some (.lst zs)/\xs.length+zs.length<=sizeLine/\∀ p,H p=none->Q (.ref p) (upd H p (.lst (xs++zs)))
theorem c4g:OpR X (binaryOp .Add) rCat:=by
 intro pins s σ H x y v u Q I rx ry h
 obtain ⟨l,b,xs,zs,rfl,rfl,hH,hB,hz,q⟩:=h
 cases rx
 cases ry
 obtain ⟨z,its,n,r,hl,e⟩:=I.lstM hH
 obtain ⟨z2,its2,n2,r2,hl2,e2⟩:=I.lstM hB
 refine PySem.P.add_list e e2 ?_ (by rw [List.size_toArray,List.size_toArray];omega)
 have ea:its.toArray++its2.toArray=(its++its2).toArray:=by simp
 rw [ea]
 exact ⟨.ref _,_,I.lnew (t':=s.toks) (r.append r2) (by rw [List.length_append];omega),rfl,q _ I.fresh⟩
noncomputable def rRep:R2:=λx y H Q=>∃ l k xs,x=.ref l/\y=.int k/\H l=some (.lst xs)/\-(2 ^ 63)<=k/\k<2 ^ 63/\xs.length * k.toNat<=sizeLine /\
 ∀ p,H p=none->Q (.ref p) (upd H p (.lst (List.replicate k.toNat xs).flatten))
theorem a9f {α:Type} (xs:List α) (k:Nat):(List.replicate k xs).flatten.length=k * xs.length:=by
 induction k with
 | zero=>simp
 | succ k ih=>rw [List.replicate_succ,List.flatten_cons,List.length_append,ih,Nat.succ_mul,Nat.add_comm]
theorem c6b:OpR X (binaryOp .Mult) rRep:=by
 intro pins s σ H x y v u Q I rx ry h
 obtain ⟨l,k,xs,rfl,rfl,hH,h1,h2,hz,q⟩:=h
 cases rx
 obtain ⟨t,rfl⟩:=ry
 obtain ⟨z,its,n,r,hl,e⟩:=I.lstM hH
 have hlen:its.toArray.size * k.toNat<=sizeLine:=by rw [List.size_toArray,<- hl];exact hz
 have hcap:¬ its.toArray.size * k.toNat > (2 ^ 63-1) / 8:=by
  have:(sizeLine:Nat)<=(2 ^ 63-1) / 8:=by decide
  omega
 have hfit:¬ (!Builtin.List.listFitsIndex k)=true:=by
  rw [fitsIndex_both h1 h2]
  exact Bool.false_ne_true
 have hlong:¬ Builtin.List.listTooLong (its.toArray.size * k.toNat)=true:=by
  rw [b55 hlen]
  exact Bool.false_ne_true
 have hnew:List.foldl (λx1 x2=>x1++x2) #[] (List.replicate (if its.toArray.isEmpty=true then 0 else k.toNat) its.toArray)=(List.replicate k.toNat its).flatten.toArray:=by
  have f0:∀ m:Nat,List.foldl (λx1 x2=>x1++x2) #[] (List.replicate m its.toArray)=(List.replicate m its).flatten.toArray:=λm=>by
   have:=V7 its m []
   rw [List.nil_append] at this
   exact this
  rw [f0]
  cases its with
  | nil=>simp
  | cons a r'=>rw [if_neg (by simp)]
 refine wpAny_binaryOp_repeat_ref (T:="list") (U:="int") (by decide) ⟨_,e,rfl⟩ (λs'=>typeIs_int s' k t) noFill_list_mul F.fills_int_mul F.slot_int_rmul repeat_list F.slot_int_index.lookup
  (call_meets F.slot_int_rmul (typeIs_int s k t) F.entry_int_rmul (F.args_int_rmul_2 _ _) (int___rmul___int_list k t l its.toArray n)
   ⟨e,rfl,⟨_,e,rfl⟩,call_meets F.slot_list_mul ⟨_,e,rfl⟩ F.entry_list_mul (F.args_list_mul_2 _ _) (AutoListH.list___mul___list_int_3 l its.toArray n k t hfit hcap hlong) ⟨e,?_⟩⟩)
 rw [hnew]
 exact ⟨.ref _,_,I.lnew (t':=s.toks) (r.rep k.toNat) (by rw [a9f,Nat.mul_comm];exact hz),rfl,q _ I.fresh⟩
end
end L2
namespace L2
open PySem PySem.Spec PyProof.Rows
section
variable {κ:Type} [DecidableEq κ]
noncomputable def N4 (kvs:List (κ×V)) (k:κ):Option V:=(kvs.find? λkv=>decide (kv.1=k)).map (·.2)
noncomputable def B4 (kvs:List (κ×V)) (k:κ) (v:V):List (κ×V):=
 if (kvs.any λkv=>decide (kv.1=k))=true then kvs.map (λkv=>if kv.1=k then (kv.1,v) else kv) else kvs++[(k,v)]
theorem R4 {p:κ×V} {r:List (κ×V)} {k:κ} (e:p.1=k):N4 (p :: r) k=some p.2:=by simp [N4,List.find?_cons,e]
theorem S8 {p:κ×V} {r:List (κ×V)} {k:κ} (e:¬ p.1=k):N4 (p :: r) k=N4 r k:=by simp [N4,List.find?_cons,e]
theorem a4v (k:κ):∀ kvs:List (κ×V),(kvs.any λkv=>decide (kv.1=k))=(N4 kvs k).isSome
 | []=>rfl
 | p :: r=>by
  rw [List.any_cons]
  by_cases e:p.1=k
  ·simp only [R4 e,decide_eq_true e,Bool.true_or,Option.isSome_some]
  ·rw [S8 e,decide_eq_false e,Bool.false_or];exact a4v k r
theorem L8 (kvs:List (κ×V)) (k:κ) (v:V):(B4 kvs k v).length<=kvs.length+1:=by
 unfold B4
 split
 ·rw [List.length_map];omega
 ·rw [List.length_append,List.length_cons,List.length_nil];omega
theorem RelO.isSome_eq {o:Option V} {u:Option Value} (r:RelO o u):o.isSome=u.isSome:=by
 cases o with
 | none=>cases u with
  | none=>rfl
  | some _=>exact (show False from r).elim
 | some _=>cases u with
  | none=>exact (show False from r).elim
  | some _=>rfl
theorem RelO.getD {o:Option V} {u:Option Value} {d:V} {d':Value} (r:RelO o u) (rd:RelV d d'):RelV (o.getD d) (u.getD d'):=by
 cases o with
 | none=>cases u with
  | none=>exact rd
  | some _=>exact (show False from r).elim
 | some _=>cases u with
  | none=>exact (show False from r).elim
  | some _=>exact r
theorem KV.val {kvs:List (κ×V)} {vs:List (κ×Value)} (r:KV kvs vs) (k:κ):RelO (N4 kvs k) (valueAt vs k):=by
 unfold KV at r
 induction r with
 | nil=>exact True.intro
 | @cons p q ps qs h t ih=>
  obtain ⟨h1,h2⟩:=h
  by_cases e:p.1=k
  ·have e':q.1=k:=h1.symm.trans e
   have b:valueAt (q :: qs) k=some q.2:=by simp [valueAt,List.find?_cons,e']
   rw [R4 e,b];exact h2
  ·have e':¬ q.1=k:=λz=>e (h1.trans z)
   have b:valueAt (q :: qs) k=valueAt qs k:=by simp [valueAt,List.find?_cons,e']
   rw [S8 e,b];exact ih
theorem KV.any {kvs:List (κ×V)} {vs:List (κ×Value)} (r:KV kvs vs) (k:κ):(kvs.any λkv=>decide (kv.1=k))=vs.any λkv=>decide (kv.1=k):=by
 unfold KV at r
 induction r with
 | nil=>rfl
 | cons h t ih=>rw [List.any_cons,List.any_cons,ih,h.1]
theorem KV.repl {kvs:List (κ×V)} {vs:List (κ×Value)} (r:KV kvs vs) (k:κ) {y:V} {u:Value} (ry:RelV y u) :
  KV (kvs.map λkv=>if kv.1=k then (kv.1,y) else kv) (vs.map λkv=>if kv.1=k then (kv.1,u) else kv):=by
 unfold KV at r ⊢
 induction r with
 | nil=>exact .nil
 | @cons p q ps qs h t ih=>
  rw [List.map_cons,List.map_cons]
  refine .cons ?_ ih
  obtain ⟨h1,h2⟩:=h
  by_cases e:p.1=k
  ·rw [if_pos e,if_pos (h1.symm.trans e)];exact ⟨h1,ry⟩
  ·rw [if_neg e,if_neg (λz=>e (h1.trans z))];exact ⟨h1,h2⟩
theorem KV.put {kvs:List (κ×V)} {vs:List (κ×Value)} (r:KV kvs vs) (k:κ) {y:V} {u:Value} (ry:RelV y u):KV (B4 kvs k y) (stored vs k u):=by
 unfold B4 stored
 rw [r.any k]
 by_cases e:(vs.any λkv=>decide (kv.1=k))=true
 ·rw [if_pos e,if_pos e];exact r.repl k ry
 ·rw [if_neg e,if_neg e];exact Paired.snoc r ⟨rfl,ry⟩
theorem KV.length {kvs:List (κ×V)} {vs:List (κ×Value)} (r:KV kvs vs):kvs.length=vs.length:=Paired.length r
end
theorem a2r {P:Program} {w:World} {k:Key} {u:Value} (r:RelV (kV k) u):(j2 P w).is k u=true:=by
 cases k with
 | inl i=>obtain ⟨t,e⟩:=(show ∃ t,u=Value.int i t from r);subst e;exact a4o P w i t
 | inr x=>obtain ⟨t,e⟩:=(show ∃ t,u=Value.str x t from r);subst e;exact a4y P w x t
theorem a16 {P:Program} {w:World}:∀ {ks:List Key} {us:List Value},Vals (ks.map kV) us->ItemsAre (j2 P w) ks us
 | [],_,r=>by rw [List.map_nil] at r;cases r;exact .nil
 | k :: ks,_,r=>by
  rw [List.map_cons] at r
  cases r with
  | cons h t=>exact .cons (a2r h) (a16 t)
noncomputable abbrev KT (H:Hp):List (List Key×V)->List (List Key×Addr×Value)->Prop:=Paired λp q=>p.1=q.1/\H q.2.1=some (.tup (p.1.map kV))/\RelV p.2 q.2.2
theorem KT.val {H:Hp} {kvs:List (List Key×V)} {xs:List (List Key×Addr×Value)} (r:KT H kvs xs) (k:List Key):RelO (N4 kvs k) ((atKey xs k).map (·.2)):=by
 induction r with
 | nil=>exact True.intro
 | @cons p q ps qs h t ih=>
  obtain ⟨h1,_,h2⟩:=h
  by_cases e:p.1=k
  ·have e':q.1=k:=h1.symm.trans e
   have b:atKey (q :: qs) k=some q.2:=by simp [atKey,List.find?_cons,e']
   rw [R4 e,b];exact h2
  ·have e':¬ q.1=k:=λz=>e (h1.trans z)
   have b:atKey (q :: qs) k=atKey qs k:=by simp [atKey,List.find?_cons,e']
   rw [S8 e,b];exact ih
theorem KT.repl {H:Hp} {kvs:List (List Key×V)} {xs:List (List Key×Addr×Value)} (r:KT H kvs xs) (k:List Key) {y:V} {u:Value} (ry:RelV y u) :
  KT H (kvs.map λkv=>if kv.1=k then (kv.1,y) else kv) (xs.map (putAt k u)):=by
 induction r with
 | nil=>exact .nil
 | @cons p q ps qs h t ih=>
  rw [List.map_cons,List.map_cons]
  refine .cons ?_ ih
  obtain ⟨h1,h2,h3⟩:=h
  unfold putAt
  by_cases e:p.1=k
  ·rw [if_pos e,if_pos (h1.symm.trans e)];exact ⟨h1,h2,ry⟩
  ·rw [if_neg e,if_neg (λz=>e (h1.trans z))];exact ⟨h1,h2,h3⟩
theorem KT.put {H:Hp} {kvs:List (List Key×V)} {xs:List (List Key×Addr×Value)} (r:KT H kvs xs) (k:List Key) {b:Addr} {y:V} {u:Value} (hb:H b=some (.tup (k.map kV))) (ry:RelV y u) :
  KT H (B4 kvs k y) (storedH xs k b u):=by
 have e:(kvs.any λkv=>decide (kv.1=k))=(atKey xs k).isSome:=by
  rw [a4v,(r.val k).isSome_eq,Option.isSome_map]
 unfold B4 storedH
 rw [e]
 by_cases q:(atKey xs k).isSome=true
 ·rw [if_pos q,if_pos q];exact r.repl k ry
 ·rw [if_neg q,if_neg q];exact Paired.snoc r ⟨rfl,hb,ry⟩
theorem KT.keeps {H H':Hp} {kvs:List (List Key×V)} {xs:List (List Key×Addr×Value)} (r:KT H kvs xs) (ht:∀ b ys,H b=some (.tup ys)->H' b=some (.tup ys)):KT H' kvs xs:=
 Paired.mapP r λ_ _ z=>⟨z.1,ht _ _ z.2.1,z.2.2⟩
section
variable {P:Program} {w:World} {H:Hp} {h:Heap} {a:Addr}
theorem c1i {u:HO} (ok:HOk P w H h) (e:Rd H a u):ObjOk P w H h a u:=e.ok ok
theorem a2h {kvs:List (Key×V)} (ok:HOk P w H h) (e:Rd H a (.dK kvs)):kvs.length<=sizeLine/\(a==sysModules)=false/\∃ vs,KV kvs vs/\h.DictOf (j2 P w) a vs:=
 show ObjOk P w H h a (.dK kvs) from c1i ok e
theorem c1s {kvs:List (Key×V)} (ok:HOk P w H h) (e:H a=some (.dK kvs)):kvs.length<=sizeLine/\(a==sysModules)=false/\∃ vs,KV kvs vs/\h.DictOf (j2 P w) a vs:=a2h ok (.inl e)
theorem a03 {ks:List Key} (ok:HOk P w H h) (e:H a=some (.tup (ks.map kV))):(tupleKind (j2 P w)).is h ks a:=by
 obtain ⟨_,its,r,o,h1,h2,n,h3⟩:=(show ObjOk P w H h a (.tup (ks.map kV)) from ok a _ e)
 exact ⟨o,its.toArray,n,h1,h2,h3.1,by simpa using a16 r⟩
theorem a5d {kvs:List (List Key×V)} (ok:HOk P w H h) (e:Rd H a (.dT kvs)):kvs.length<=sizeLine/\(a==sysModules)=false /\
  ∃ xs,KT H kvs xs/\h.DictOfH (tupleKind (j2 P w)) a xs:=by
 obtain ⟨z,y,xs,r,o,es,ep,h1,h2,h3,h4,h5⟩:=(show ObjOk P w H h a (.dT kvs) from c1i ok e)
 refine ⟨z,y,xs,r,o,es,ep,h1,h2,h3,h4,λx hx=>?_,h5⟩
 have all:∀ {l:List (List Key×V)} {m:List (List Key×Addr×Value)},KT H l m->∀ x∈m,(tupleKind (j2 P w)).is h x.1 x.2.1:=by
  intro l m q
  induction q with
  | nil=>intro x hx;exact nomatch hx
  | @cons p q ps qs hq t ih=>
   intro x hx
   rcases List.mem_cons.mp hx with e | hx
   ·subst e
    exact a03 ok (by rw [<- hq.1];exact hq.2.1)
   ·exact ih x hx
 exact all r x hx
theorem d0o {kvs:List (List Key×V)} (ok:HOk P w H h) (e:H a=some (.dT kvs)):kvs.length<=sizeLine/\(a==sysModules)=false /\
  ∃ xs,KT H kvs xs/\h.DictOfH (tupleKind (j2 P w)) a xs:=a5d ok (.inl e)
end
noncomputable def DGet (H:Hp) (a:Addr) (y:V) (r:Option V):Prop:=
 (∃ kvs k,Rd H a (.dK kvs)/\y=kV k/\r=N4 kvs k)\/∃ kvs k b,Rd H a (.dT kvs)/\y=.ref b/\H b=some (.tup (k.map kV))/\r=N4 kvs k
noncomputable def DPut (H:Hp) (a:Addr) (y v:V) (H':Hp):Prop:=
 (∃ kvs k,H a=some (.dK kvs)/\y=kV k/\kvs.length<sizeLine/\H'=upd H a (.dK (B4 kvs k v))) \/
 ∃ kvs k b,H a=some (.dT kvs)/\y=.ref b/\H b=some (.tup (k.map kV))/\kvs.length<sizeLine/\H'=upd H a (.dT (B4 kvs k v))
theorem DGet.k {H:Hp} {a:Addr} {kvs:List (Key×V)} {k:Key} (e:H a=some (.dK kvs)):DGet H a (kV k) (N4 kvs k):=.inl ⟨kvs,k,.inl e,rfl,rfl⟩
theorem DPut.k {H:Hp} {a:Addr} {kvs:List (Key×V)} {k:Key} {v:V} (e:H a=some (.dK kvs)) (hl:kvs.length<sizeLine):DPut H a (kV k) v (upd H a (.dK (B4 kvs k v))):=.inl ⟨kvs,k,e,rfl,hl,rfl⟩
section
variable {X:Cx} {pins:List (Addr×Obj)} {σ:St} {H:Hp} {s:Shared} {a:Addr} {y v:V} {u r:Value} {o:Option V} {A:Around} {E:Value->Shared->Prop}
theorem Inv.big (I:Inv X pins σ H s):sysModules<s.heap.objs.size:=by
 have h:mainGlobals<s.heap.objs.size:=(I.mod.glob.keeps I.bk).lt
 exact Nat.lt_trans (by decide) h
theorem a96 {Q:Value->Shared->Prop} (hu:A.units+1<cLine) (I:Inv X pins σ H s) (g:DGet H a y (some v)) (ry:RelV y u) (h:∀ w' s',Inv X pins σ H s'->RelV v w'->Q w' s') :
  wpAny (model X.prog X.w) A (getItem (.ref a) u) Q E s:=by
 rcases g with ⟨kvs,k,e,ey,l⟩ | ⟨kvs,k,b,e,ey,eb,l⟩
 ·subst ey
  obtain ⟨z,hd,vs,rel,dd⟩:=a2h I.hok e
  obtain ⟨w',hw,rw'⟩:=RelO.some_of (v:=v) (o:=valueAt vs k) (by rw [l];exact rel.val k)
  exact wpAny_getItem_of (a2r ry) dd.mapOf hw (h w' _ (I.tok _) rw')
 ·subst ey
  cases (show u=Value.ref b from ry)
  obtain ⟨z,hd,xs,rel,dd⟩:=a5d I.hok e
  obtain ⟨w',hw,rw'⟩:=RelO.some_of (v:=v) (o:=(atKey xs k).map (·.2)) (by rw [l];exact rel.val k)
  obtain ⟨p,hp,hp2⟩:=Option.map_eq_some_iff.mp hw
  refine wpAny_getItem_heap (tupleKind_room_in1 hu) (a03 I.hok eb) dd hp ?_
  rw [hp2]
  exact h w' _ (I.tok _) rw'
theorem a3p {h':Heap} {t':Nat} {ob:HO} (I:Inv X pins σ H s) (mu:Mut (H a)) (hs:Heap.SameBut a s.heap h') (he:∃ q,h'.get? a=some q) (new:ObjOk X.prog X.w (upd H a ob) h' a ob) :
  Inv X pins σ (upd H a ob) { s with heap:=h',toks:=t' }:=
 I.write (x:=a) (e:=a) mu (.inl rfl) (λb q hb z=>(hs.2 b hb).trans z) he new
theorem b2r {P:Program} {w:World} {H':Hp} {h':Heap} {kvs:List (Key×V)} {vs:List (Key×Value)} (z:kvs.length<=sizeLine) (hd:(a==sysModules)=false) (rel:KV kvs vs) (dd:h'.DictOf (j2 P w) a vs) :
  ObjOk P w H' h' a (.dK kvs):=⟨z,hd,vs,rel,dd⟩
theorem b0g {H':Hp} {Q:Unit->Shared->Prop} (hu:A.units+1<cLine) (I:Inv X pins σ H s) (g:DPut H a y v H') (ry:RelV y u) (rv:RelV v r) (h:∀ s',Inv X pins σ H' s'->Q () s') :
  wpAny (model X.prog X.w) A (setItem (.ref a) u r) Q E s:=by
 rcases g with ⟨kvs,k,e,ey,l,eH⟩ | ⟨kvs,k,b,e,ey,eb,l,eH⟩
 ·subst ey eH
  obtain ⟨z,hd,vs,rel,dd⟩:=c1s I.hok e
  have hz:vs.length<=sizeLine:=by rw [<- rel.length];exact z
  have hl:(B4 kvs k v).length<=sizeLine:=by have:=L8 kvs k v;omega
  refine wpAny_setItem_pairs (hsz:=hz) (a2r ry) dd λh' dd' hs=>h _ ?_
  have he:∃ q,h'.get? a=some q:=let ⟨q,_,_,hq,_⟩:=dd';⟨q,hq⟩
  exact a3p I (by rw [e];exact True.intro) hs he (b2r hl hd (rel.put k rv) dd')
 ·subst ey eH
  cases (show u=Value.ref b from ry)
  obtain ⟨z,hd,xs,rel,dd⟩:=d0o I.hok e
  have hz:xs.length<=sizeLine:=by rw [<- Paired.length rel];exact z
  have hl:(B4 kvs k v).length<=sizeLine:=by have:=L8 kvs k v;omega
  refine wpAny_setItem_heap (hsz:=hz) (tupleKind_room_in1 hu) (a03 I.hok eb) dd λh' dd' hs=>h _ ?_
  obtain ⟨q,es,ep,hq,h2,h3,h4,_,h5⟩:=dd'
  refine a3p I (by rw [e];exact True.intro) hs ⟨q,hq⟩ ⟨hl,hd,_,(rel.put k eb rv).keeps λc ys ec=>?_,q,es,ep,hq,h2,h3,h4,h5⟩
  rw [b9 (b4z ec e (λz=>nomatch z))]
  exact ec
end
section
variable {X:Cx} {pins:List (Addr×Obj)} {σ:St} {H:Hp} {s:Shared} {a:Addr} {kvs:List (Key×V)} {k:Key} {u:Value} {A:Around} {E:Value->Shared->Prop}
theorem c9x {Q:Value->Shared->Prop} (I:Inv X pins σ H s) (e:Rd H a (.dK kvs)) (h:∀ t s',Inv X pins σ H s'->Q (.int kvs.length t) s'):wpAny (model X.prog X.w) A (call (.builtin "len") [.ref a]) Q E s:=by
 obtain ⟨z,hd,vs,rel,dd⟩:=a2h I.hok e
 refine call_len_dict hd dd (by rw [<- rel.length];rw [sizeLine_eq] at z;omega) ?_
 rw [<- rel.length]
 exact h _ _ (I.tok _)
end
theorem a4m {X:Cx} {pins:List (Addr×Obj)} {σ:St} {H:Hp} {s:Shared} {a:Addr} {y:V} {o:Option V} (I:Inv X pins σ H s) (g:DGet H a y o):s.TypeIs (.ref a) "dict":=by
 rcases g with ⟨kvs,k,e,_,_⟩ | ⟨kvs,k,b,e,_,_,_⟩
 ·obtain ⟨_,_,vs,_,dd⟩:=a2h I.hok e
  exact dd.typeIs
 ·obtain ⟨_,_,xs,_,dd⟩:=a5d I.hok e
  exact dd.typeIs
theorem b56 {P:Program} {w:World} {H:Hp} (h:Heap) (hb:sysModules<h.objs.size):ObjOk P w H (h.push { cls:=.type "dict",data:=.dict #[] }) h.objs.size (.dK []):=
 ⟨Nat.zero_le _,beq_eq_false_iff_ne.mpr (Ne.symm (Nat.ne_of_lt hb)),[],.nil,Heap.DictOf.new h⟩
noncomputable def a36:List (TE×TE)->St->Hp->(List (V×V)->Hp->Prop)->Prop
 | [],_,H,Q=>Q [] H
 | (tk,tv) :: r,σ,H,Q=>tk σ H λx H1=>tv σ H1 λy H2=>a36 r σ H2 λps H3=>Q ((x,y) :: ps) H3
noncomputable abbrev VV:List (V×V)->List (Value×Value)->Prop:=Paired λp q=>RelV p.1 q.1/\RelV p.2 q.2
noncomputable def PPs (X:Cx) (pos:Pos) (keys:List (Option Expr)) (values:List Expr) (trs:List (TE×TE)):Prop:=
 ∀ (pins:List (Addr×Obj)) (s:Shared) (σ:St) (H:Hp) (Q:List (V×V)->Hp->Prop),Inv X pins σ H s->a36 trs σ H Q ->
  wpAny (model X.prog X.w) X.A (evalPairs (pairTrees keys values X.env pos)) (λvs s'=>∃ ps H',Inv X pins σ H' s'/\VV ps vs/\Q ps H') X.xe s
theorem b7g {X:Cx} {pos:Pos}:PPs X pos [] [] []:=λpins s σ H Q I h=>pairTrees_nil_walk ⟨[],H,I,.nil,h⟩
theorem b49 {X:Cx} {pos:Pos} {k v:Expr} {ks:List (Option Expr)} {vs:List Expr} {tk tv:TE} {trs:List (TE×TE)} (hk:PE X k tk) (hv:PE X v tv) (hr:PPs X pos ks vs trs) :
  PPs X pos (some k :: ks) (v :: vs) ((tk,tv) :: trs):=λpins s σ H Q I h=>
 pairTrees_cons_walk (thn (hk pins s σ H _ I h) λu s1 ⟨x,H1,I1,rx,q1⟩=>thn (hv pins s1 σ H1 _ I1 q1) λw2 s2 ⟨y,H2,I2,ry,q2⟩=>
  thn (hr pins s2 σ H2 _ I2 q2) λws s3 ⟨ps,H3,I3,rel,q3⟩=>⟨(x,y) :: ps,H3,I3,.cons ⟨rx,ry⟩ rel,q3⟩)
noncomputable def O8 (kvs more:List (Key×V)):List (Key×V):=more.foldl (λacc kv=>B4 acc kv.1 kv.2) kvs
theorem KV.merge:∀ {more:List (Key×V)} {rs:List (Key×Value)} {kvs:List (Key×V)} {vs:List (Key×Value)},KV more rs->KV kvs vs->KV (O8 kvs more) (merged vs rs):=by
 intro more rs kvs vs r
 unfold KV at r
 induction r generalizing kvs vs with
 | nil=>intro q;exact q
 | @cons p q ps qs h t ih=>
  intro r0
  have e:KV (B4 kvs p.1 p.2) (stored vs q.1 q.2):=by
   have:=r0.put p.1 h.2
   rw [<- h.1];exact this
  exact ih e
theorem O4:∀ (more kvs:List (Key×V)),(O8 kvs more).length<=kvs.length+more.length
 | [],kvs=>by show kvs.length<=kvs.length+0;omega
 | p :: r,kvs=>by
  have h1:=O4 r (B4 kvs p.1 p.2)
  have h2:=L8 kvs p.1 p.2
  show (O8 (B4 kvs p.1 p.2) r).length<=_
  rw [List.length_cons];omega
theorem a0a {P:Program} {w:World}:∀ {kvs:List (Key×V)} {ws:List (Value×Value)},VV (kvs.map λkv=>(kV kv.1,kv.2)) ws->∃ rs,Carries (j2 P w) ws rs/\KV kvs rs
 | [],_,r=>by rw [List.map_nil] at r;cases r;exact ⟨[],True.intro,.nil⟩
 | p :: kvs,_,r=>by
  rw [List.map_cons] at r
  cases r with
  | @cons a b as bs h t=>
   obtain ⟨rs,c,q⟩:=a0a (P:=P) (w:=w) t
   obtain ⟨b1,b2⟩:=b
   exact ⟨(p.1,b2) :: rs,⟨a2r h.1,rfl,c⟩,.cons ⟨rfl,h.2⟩ q⟩
noncomputable def c6o (trs:List (TE×TE)):TE:=λσ H Q=>∀ p,H p=none->a36 trs σ (upd H p (.dK [])) λps H2=>H2 p=some (.dK [])/\∃ kvs:List (Key×V),ps=kvs.map (λkv=>(kV kv.1,kv.2))/\kvs.length<=15/\Q (.ref p) (upd H2 p (.dK (O8 [] kvs)))
theorem b94 {X:Cx} {pos:Pos} {keys:List (Option Expr)} {values:List Expr} {trs:List (TE×TE)} (h:PPs X pos keys values trs) (hall:keys.all (·.isSome)=true) (hl:keys.length=values.length) (h0:keys≠[])
  (h15:keys.length<=15):PE X (.Dict keys values pos) (c6o trs):=by
 intro pins s σ H Q I q
 have hn:=I.hok.fresh (Nat.le_refl s.heap.objs.size)
 have I1:=I.laid (a:=s.heap.objs.size) (o:=.dK []) (h':=s.heap.push { cls:=.type "dict",data:=.dict #[] }) (t':=s.toks) (λ_ _ q=>Heap.get?_push_of_some _ q) (Nat.le_refl _) (b56 s.heap I.big)
 refine wpAny_Dict_walk (knd:=j2 X.prog X.w) hall hl h0 h15 (thn (h pins _ σ _ _ I1 (q _ hn)) λws s2 ⟨ps,H2,I2,rel,e,kvs,ep,lk,q2⟩=>?_)
 subst ep
 obtain ⟨rs,c,rk⟩:=a0a (P:=X.prog) (w:=X.w) rel
 obtain ⟨z,hd,vs0,r0,dd⟩:=c1s I2.hok e
 cases r0
 refine ⟨rs,c,dd,λh' dd' hs=>⟨.ref s.heap.objs.size,_,?_,rfl,q2⟩⟩
 have hz:(O8 [] kvs).length<=sizeLine:=by
  have h1:=O4 kvs []
  rw [List.length_nil] at h1
  rw [sizeLine_eq];omega
 have he:∃ q,h'.get? s.heap.objs.size=some q:=let ⟨q,_,_,hq,_⟩:=dd';⟨q,hq⟩
 exact a3p I2 (by rw [e];exact True.intro) hs he (b2r hz hd (rk.merge .nil) dd')
section
variable {X:Cx} {pins:List (Addr×Obj)} {σ:St} {H:Hp} {s:Shared} {a:Addr} {y d:V} {u r:Value} {o:Option V} {A:Around} {E:Value->Shared->Prop}
theorem c2r {Q:Value->Shared->Prop} (hu:A.units+1<cLine) (I:Inv X pins σ H s) (g:DGet H a y o) (ry:RelV y u) (h:∀ w' s',Inv X pins σ H s'->RelV (o.getD .non) w'->Q w' s') :
  wpAny (model X.prog X.w) A (call (.builtin "dict.get") [.ref a,u]) Q E s:=by
 rcases g with ⟨kvs,k,e,ey,l⟩ | ⟨kvs,k,b,e,ey,eb,l⟩
 ·subst ey
  obtain ⟨z,hd,vs,rel,dd⟩:=a2h I.hok e
  refine call_meetsIn PySem.F.slot_dict_get dd.typeIs PySem.F.entry_dict_get (PySem.F.args_dict_get_2 _ _) (meets_dict_get (j2 X.prog X.w) a (a2r ry) hd) ⟨_,dd.mapOf,h _ _ (I.tok _) ?_⟩
  rw [l]
  exact (rel.val k).getD rfl
 ·subst ey
  cases (show u=Value.ref b from ry)
  obtain ⟨z,hd,xs,rel,dd⟩:=a5d I.hok e
  refine call_meetsIn PySem.F.slot_dict_get dd.typeIs PySem.F.entry_dict_get (PySem.F.args_dict_get_2 _ _) (meetsH_dict_get (tupleKind (j2 X.prog X.w)) a b hd) ⟨tupleKind_room_in1 hu,k,xs,a03 I.hok eb,dd,h _ _ (I.tok _) ?_⟩
  rw [l]
  exact (rel.val k).getD rfl
theorem c3p {Q:Value->Shared->Prop} (hu:A.units+1<cLine) (I:Inv X pins σ H s) (g:DGet H a y o) (ry:RelV y u) (rd:RelV d r) (h:∀ w' s',Inv X pins σ H s'->RelV (o.getD d) w'->Q w' s') :
  wpAny (model X.prog X.w) A (call (.builtin "dict.get") [.ref a,u,r]) Q E s:=by
 rcases g with ⟨kvs,k,e,ey,l⟩ | ⟨kvs,k,b,e,ey,eb,l⟩
 ·subst ey
  obtain ⟨z,hd,vs,rel,dd⟩:=a2h I.hok e
  refine call_meetsIn PySem.F.slot_dict_get dd.typeIs PySem.F.entry_dict_get (PySem.F.args_dict_get_3 _ _ _) (meets_dict_get_default (j2 X.prog X.w) a (a2r ry) hd r) ⟨_,dd.mapOf,h _ _ (I.tok _) ?_⟩
  rw [l]
  exact (rel.val k).getD rd
 ·subst ey
  cases (show u=Value.ref b from ry)
  obtain ⟨z,hd,xs,rel,dd⟩:=a5d I.hok e
  refine call_meetsIn PySem.F.slot_dict_get dd.typeIs PySem.F.entry_dict_get (PySem.F.args_dict_get_3 _ _ _) (meetsH_dict_get_default (tupleKind (j2 X.prog X.w)) a b hd r) ⟨tupleKind_room_in1 hu,k,xs,a03 I.hok eb,dd,h _ _ (I.tok _) ?_⟩
  rw [l]
  exact (rel.val k).getD rd
end
end L2
namespace Att
open PySem PySem.W PySem.Calls PyProof.Rows
theorem X9 {P:Params} {h:Heap}:∀ (ns:List Int) (vs:List Value),WellAll P h vs (ns.map WData.int)->IntsAre vs ns:=by
 intro ns
 induction ns with
 | nil=>
  intro vs w
  rw [List.map_nil] at w
  cases w
  exact .nil
 | cons n ns ih=>
  intro vs w
  rw [List.map_cons] at w
  cases w with
  | cons a b=>
   cases a
   exact .cons _ _ (ih _ b)
theorem b04 {l:OpenLaw} {n:Nat} (hn:l.most=some n) {P:Params} {h:Heap} {args:List WData} {vals:List Value}
  (hpre:l.row.toRowW.claim.pre args=true) (hwl:WellAll P h vals args) :
  ∃ a vs ns,vals=[Value.ref a]/\args=[WData.list (ns.map WData.int)]/\h.get? a=some { cls:=.type "list",data:=.seq vs.toArray }/\IntsAre vs ns/\ns.length<=n:=by
 have hsh:WShape.hasAll [] args [.list .int]=true:=(pre_splitW hpre).1
 have hc:l.pre.holds [] { args:=args }=true:=(pre_splitW hpre).2
 obtain ⟨d,r,rfl,h1,h2⟩:=hasAllW_cons hsh
 obtain rfl:=hasAllW_nil h2
 obtain ⟨xs,rfl,h3⟩:=hasW_list h1
 obtain ⟨ns,rfl⟩:=items_int h3
 have hlen:ns.length<=n:=by
  unfold OpenLaw.pre at hc
  have h4:(WTm.not (.lt (.lit (.int (n:Int))) (.len (.arg 0)))).holds [] { args:=[.list (ns.map .int)] }=true:=by
   have h4:=(holds_andW hc).1
   rw [hn] at h4
   exact h4
  have h5:=condW_of h4 (w_not (w_lt w_lit (w_len_list (w_arg rfl))))
  rw [List.length_map] at h5
  refine Nat.le_of_not_lt λq=>?_
  have q':(n:Int)<((ns.length:Nat):Int):=by omega
  first
   | (rw [decide_eq_true q'] at h5;exact absurd h5 (by decide))
   | (simp at h5;omega)
 cases hwl with
 | cons w1 w2=>
  cases w2
  cases w1 with
  | list ho hall=>exact ⟨_,_,ns,rfl,rfl,ho,X9 ns _ hall,hlen⟩
theorem b1c (l:OpenLaw) (args:List WData):l.row.toRowW.claim.post args (.bool true) args=true:=
 postW_of (r:=l.row.toRowW) (X:=(true==true))
  (show WShape.has [] (.bool true) .bool=true by first | rfl | decide | simp [WShape.has,WShape.arms,WShape.armsAll])
  (show (WTm.eq .res (.lit (.bool true))).value [] { args:=args,res:=some (.bool true),after:=args }=some (.bool (true==true)) from w_eq_bool (w_res rfl) w_lit) rfl
theorem attach_call {l:OpenLaw} {n:Nat} {q:Program} {loose:List Str} {XP:(Str->Option Value)->Heap->Prop} {YP:World->Heap->Prop} {d:DefRec}
  (hn:l.most=some n) (hdf:d.params.defaults=[])
  (call:∀ (w:World) (s₀ s₁:Shared) (mg mb:Str->Option Value) (fa:Addr) (o:Obj) (pm cd doc:Value) (a:Addr) (vs:List Value) (ns:List Int),
   Ground q loose [] XP w s₀ mg mb s₁.heap->YP w s₁.heap ->
   s₁.heap.get? fa=some o->o.data=.func (docDef d.name d.params d.body d.scope pm cd doc)->s₁.heap.CodeRec cd d.name->mg d.name=some (.ref fa) ->
   s₁.heap.get? a=some { cls:=.type "list",data:=.seq vs.toArray }->IntsAre vs ns->ns.length<=n->s₁.gens=#[] ->
   codeAny (model l.prog w) callerA (.call (.ref fa) ⟨[.ref a],[]⟩) (λr s'=>r=.ok (.ret (.bool true))/\OldK s₁.heap s'.heap/\s'.os=s₁.os/\AllBare s'.gens) s₁) :
  WalkO q loose XP YP l.row.toRowW d [] (λf vs=>PySem.call f vs):=by
 intro w s₀ s₁ mg mb G Y fa o pm cd doc dV kV ho hd hcd hD hmg hg args vals as hpre hlay hrd hwl hlo
 obtain rfl:dV=.none:=Dflts.none hD hdf
 obtain rfl:kV=.none:=Dflts.noKw hD
 obtain ⟨a,vs,ns,rfl,rfl,hobj,hints,hlen⟩:=b04 hn hpre hwl
 refine enter_call (codeAny_mono (call w s₀ s₁ mg mb fa o pm cd doc a vs ns G Y ho (fd_plain hd) hcd hmg hobj hints hlen hg) λr s' hq=>?_)
 obtain ⟨rfl,h2,h3,h4⟩:=hq
 exact ⟨.inl ⟨.bool true,.bool true,[],rfl,λ_=>rfl,.bool true,b1c l _,λ_=>⟨List.Pairwise.nil,λ_ hm=>(nomatch hm)⟩⟩,h2,h3,h4⟩
end Att
namespace L2
open PySem PySem.Spec PyProof.Rows
theorem E3:∀ {vs:List Value} {ns:List Int},IntsAre vs ns->Vals (ns.map V.int) vs
 | _,_,.nil=>.nil
 | _,_,.cons n t h=>.cons ⟨t,rfl⟩ (E3 h)
noncomputable def c22 (H:Hp):Prop:=∀ b,H b=none\/∃ o xs,H b=some (.frz o (.lst xs))
theorem b5q {P:Program} {w:World} {K:PySem.W.Frag} {mg mb:Str->Option Value} {CX:CXT} {k:Nat} {fa a:Addr} {fd:FuncData} {x:Str} {sp:Sp} {s₁:Shared} {vs:List Value} {ns:List Int}
  (KX:K.In s₁.heap) (hns:s₁.heap.Ns mainGlobals mg) (hb:s₁.heap.Ns builtinsNs mb) (hbb:∀ x:Str,x ≠ "__name__"->mb x=bootBuiltins x) (hlim:s₁.heap.NoLimit) (hg:s₁.gens=#[])
  (ha:s₁.heap.get? a=some { cls:=.type "list",data:=.seq vs.toArray }) (hi:IntsAre vs ns) (hl:ns.length<=sizeLine) (hr:Room false k callerA)
  (F:∀ base:Heap,K.In base->base.Ns mainGlobals mg->FnOk P w K mg base CX k fa fd [x] sp) (hbind:∀ (s:Shared) (u:Value),BindsTo s fd ⟨[u],[]⟩ [(x,u)])
  (hsp:∀ H:Hp,c22 H->SqL K H a (ns.map V.int)->sp [.ref a] H (λv _=>v=.bl true) λ_ _ _=>False)
  (hCX:∀ H e s',CX [] H s₁ (λ_ _ _=>False) e s'->False) :
  codeAny (model P w) callerA (.call (.ref fa) ⟨[.ref a],[]⟩) (λr s'=>r=.ok (.ret (.bool true))/\OldK s₁.heap s'.heap/\s'.os=s₁.os/\AllBare s'.gens) s₁:=by
 have rv:=E3 hi
 have lenV:=hi.length
 have core:∀ H:Hp,c22 H->SqL K H a (ns.map V.int)->HOk P w H s₁.heap->(∀ b,H b≠none->b=a)->(H a≠none->K.lookup a=none) ->
   codeAny (model P w) callerA (.call (.ref fa) ⟨[.ref a],[]⟩) (λr s'=>r=.ok (.ret (.bool true))/\OldK s₁.heap s'.heap/\s'.os=s₁.os/\AllBare s'.gens) s₁:=by
  intro H hO hS hok hA hK
  have Q5:∀ {b:Addr} {o:Obj},s₁.heap.get? b=some o->H b=none->(a21 s₁.heap H).get? b=some o:=λe n=>b16 e n
  have noA:∀ {b:Addr} {o:Obj} {es:Array DictEntry} {ep:Nat},s₁.heap.get? b=some o->o.data=.dict es ep->H b=none:=λ{b o es ep} e d=>by
   cases q:H b with
   | none=>rfl
   | some u=>
    have e':b=a:=hA b (by rw [q];simp)
    subst e'
    rw [ha] at e;cases e
    have d':Data.seq vs.toArray _=Data.dict es ep:=d
    cases d'
  have nsK:∀ {b:Addr} {m:Str->Option Value},s₁.heap.Ns b m->(a21 s₁.heap H).Ns b m:=λ{b m} ⟨o,es,ep,e,d,r⟩=>⟨o,es,ep,Q5 e (noA e d),d,r⟩
  have hKb:K.In (a21 s₁.heap H):=λb o e=>Q5 (KX b o e) (by
   cases q:H b with
   | none=>rfl
   | some u=>
    have e':b=a:=hA b (by rw [q];simp)
    subst e'
    rw [hK (by rw [q];simp)] at e;cases e)
  have hM:Mod K mg (a21 s₁.heap H):=⟨hKb,nsK hns,⟨mb,nsK hb,hbb⟩,let ⟨mc,h1,h2⟩:=hlim;⟨mc,nsK h1,h2⟩⟩
  have e0:Env0 P w K mg (a21 s₁.heap H) callerA [] s₁ H:=⟨rfl,hM,λb o e=>b82 e,Nat.le_of_eq (a97 _ _),trivial,λb hb=>absurd (show b∈([]:List Addr) from hb) (by simp),hok,.of_eq hg⟩
  refine codeAny_mono ((F _ hKb (nsK hns)).run callerA [] s₁ H ⟨[.ref a],[]⟩ [.ref a] [.ref a] _ _ hr.any e0 (hbind s₁ (.ref a)) (.cons rfl .nil) (hsp H hO hS)) λr s' h=>?_
  cases r with
  | error e=>exact (hCX H e s' h).elim
  | ok fl=>
   cases fl with
   | next=>exact False.elim h
   | brk=>exact False.elim h
   | cont=>exact False.elim h
   | ret u=>
    obtain ⟨v,H',os,bare,un,hok',r',q⟩:=h
    have q':v=.bl true:=q
    subst q'
    obtain rfl:u=Value.bool true:=r'
    refine ⟨rfl,OldK.of_keep λb o e=>?_,os,bare⟩
    cases q:H b with
    | none=>exact un.keep b o e q (by intro z;exact absurd (show b∈([]:List Addr) from z) (by simp)) (by simp)
    | some u=>
     rcases hO b with z | ⟨ob,xs,z⟩
     ·rw [q] at z;cases z
     ·have z2:=un.frzs b ob _ z
      obtain ⟨e1,_⟩:=hok b _ z
      obtain ⟨e2,_⟩:=hok' b _ z2
      rw [e] at e1;cases e1
      exact e2
 cases hk:K.lookup a with
 | some o=>
  have e:=KX a o hk
  rw [ha] at e
  cases e
  refine core (λ_=>none) (λ_=>.inl rfl) (.inr ⟨_,vs.toArray,_,hk,rfl,rfl,rfl,by rw [List.size_toArray,lenV];exact hl,by simpa using rv⟩) (λb u z=>by have z':(none:Option HO)=some u:=z;cases z') (λb z=>absurd rfl z) λz=>absurd rfl z
 | none=>
  refine core (λb=>if b=a then some (.frz { cls:=.type "list",data:=.seq vs.toArray } (.lst (ns.map V.int))) else none) (λb=>?_) (.inl (.inr ⟨{ cls:=.type "list",data:=.seq vs.toArray },if_pos rfl⟩)) (λb u z=>?_) (λb z=>?_) λ_=>hk
  ·by_cases hb:b=a
   ·exact .inr ⟨_,_,if_pos hb⟩
   ·exact .inl (if_neg hb)
  ·by_cases hb:b=a
   ·have z':=(if_pos hb).symm.trans z
    cases z'
    subst hb
    exact ⟨ha,by rw [List.length_map];exact hl,vs,_,rv,ha⟩
   ·have z':=(if_neg hb).symm.trans z
    cases z'
  ·by_cases hb:b=a
   ·exact hb
   ·exact absurd (if_neg hb) z
end L2
namespace L2
open PySem PySem.Spec PyProof.Rows
theorem walk_of {l:PySem.W.OpenLaw} {n k:Nat} {q:Program} {loose:List Str} {XP:(Str->Option Value)->Heap->Prop} {YP:World->Heap->Prop} {d:DefRec} {K:Params->PySem.W.Frag} {CX:World->CXT} {sp:World->Sp} {x:Str}
  (hn:l.most=some n) (hn2:n<=sizeLine) (hdf:d.params.defaults=[]) (hr:Room false k callerA)
  (hY:∀ (w:World) (h:Heap),YP w h->(K w.params).In h)
  (F:∀ (w:World) (mg:Str->Option Value) (fa:Addr) (h:Heap),(K w.params).In h->h.Ns mainGlobals mg->mg d.name=some (.ref fa) ->
   ∃ fd:FuncData,(∀ (s:Shared) (u:Value),BindsTo s fd ⟨[u],[]⟩ [(x,u)]) /\
    ∀ base:Heap,(K w.params).In base->base.Ns mainGlobals mg->FnOk l.prog w (K w.params) mg base (CX w) k fa fd [x] (sp w))
  (hsp:∀ (w:World) (H:Hp) (a:Addr) (ns:List Int),ns.length<=n->c22 H->SqL (K w.params) H a (ns.map V.int)->sp w [.ref a] H (λv _=>v=.bl true) λ_ _ _=>False)
  (hCX:∀ (w:World) (H:Hp) (s:Shared) (e:Value) (s':Shared),CX w [] H s (λ_ _ _=>False) e s'->False) :
  PySem.W.WalkO q loose XP YP l.row.toRowW d [] (λf vs=>PySem.call f vs):=by
 refine Att.attach_call hn hdf λw s₀ s₁ mg mb fa o pm cd doc a vs ns G Y ho hd hcd hmg hobj hints hlen hg=>?_
 have KX:=hY w _ Y
 obtain ⟨fd,hb,hF⟩:=F w mg fa _ KX G.T.g hmg
 exact b5q KX G.T.g G.T.b G.T.builtins G.T.nolimit hg hobj hints (Nat.le_trans hlen hn2) hr hF hb (λH hO hS=>hsp w H a ns hlen hO hS) λH e s'=>hCX w H s₁ e s'
end L2
namespace L2
open PySem PySem.Spec PyProof.Rows
noncomputable def a25 (s:Stmt) (j:Nat):Stmt:=match s with
 | .ClassDef _ _ _ body _ _ _ _ _ _ _=>body.getD j (.Pass ⟨0,0,0,0⟩)
 | _=>.Pass ⟨0,0,0,0⟩
noncomputable def w8 (s:Stmt):Arguments:=match s with
 | .FunctionDef _ a _ _ _ _ _ _ _ _=>a
 | _=>{ posonlyargs:=[],args:=[],vararg:=none,kwonlyargs:=[],kw_defaults:=[],kwarg:=none,defaults:=[] }
noncomputable def m4 (s:Stmt):List Stmt:=match s with
 | .FunctionDef _ _ b _ _ _ _ _ _ _=>b
 | _=>[]
noncomputable def c9 (s:Stmt):Scope:=match s with
 | .FunctionDef _ _ _ _ _ _ sc _ _ _=>sc
 | _=>{ kind:=.function,names:=[],isGenerator:=false,isCoroutine:=false }
noncomputable abbrev CX0:CXT:=⟨λ_ _ _ _ _ _=>False,false⟩
noncomputable abbrev E0:XK:=λ_ _ _=>False
theorem a5t {X:Cx}:D4 CX0 X E0:=λ_ _ _ _ _ _ _ h=>False.elim h
structure Fun (K:PySem.W.Frag) (x qual:Str) (st:Stmt) (f:Addr) (fd:FuncData):Prop where
 ex:∃ (oc:Value) (od:Option Addr) (kV doc pm:Value) (an:Option Addr) (cdv ct:Value) (osl:Array (Option Value)),
  fd=PySem.W.fnOf x qual (w8 st) (m4 st) (c9 st) .none kV doc pm an cdv ct/\K.lookup f=some ⟨oc,od,.func fd,osl⟩/\PySem.W.codeIn K cdv qual=true
 kp:PySem.W.keepIn K (.ref f)=true
section
variable {P:Program} {w:World} {K:PySem.W.Frag} {mg:Str->Option Value} {base:Heap}
theorem Fun.ok {x qual:Str} {st:Stmt} {f:Addr} {fd:FuncData} {N ps:List Str} {k:Nat} {sp:Sp} (F:Fun K x qual st f fd) (S:FnScope N ps (c9 st)) (len:∀ vs H Q E,sp vs H Q E->vs.length=ps.length)
  (hbody:∀ (cdv:Value) (A:Around) (outer:List Env) (s:Shared) (H:Hp) (vs:List V) (Q:VK) (E:XK),Room false k (A.deeper (envOfC qual (c9 st) s.heap.objs.size f cdv))->sp vs H Q E ->
   ∃ t,PSs (Z9 CX0 P w K mg base N qual (c9 st) f cdv A outer s H E).nox (m4 st) t/\t { nx:=λ_ H'=>Q .non H',rt:=Q } (start N vs) H):FnOk P w K mg base CX0 (k+1) f fd ps sp:=by
 obtain ⟨oc,od,kV,doc,pm,an,cdv,ct,osl,rfl,lk,hcd⟩:=F.ex
 refine c03 lk hcd S len λA outer s H vs Q E hr hsp=>?_
 obtain ⟨t,h,q⟩:=hbody cdv A outer s H vs Q E hr hsp
 exact ⟨t,h.nox,q⟩
theorem Fun.binds {x qual:Str} {st:Stmt} {f:Addr} {fd:FuncData} {ps:List Str} (F:Fun K x qual st f fd)
  (h:∀ (kV doc pm:Value) (an:Option Addr) (cdv ct:Value) (us:List Value),us.length=ps.length->bindArgs (PySem.W.fnOf x qual (w8 st) (m4 st) (c9 st) .none kV doc pm an cdv ct) ⟨us,[]⟩=pure (ps.zip us)):Binds K fd ps []:=by
 obtain ⟨oc,od,kV,doc,pm,an,cdv,ct,osl,rfl,lk,hcd⟩:=F.ex
 exact .all (h kV doc pm an cdv ct)
theorem a09 {x qual:Str} {st:Stmt} {f:Addr} {oc:Value} {od an:Option Addr} {osl:Array (Option Value)} {kV doc pm cdv ct:Value} (l:K.lookup f=some ⟨oc,od,.func (PySem.W.fnOf x qual (w8 st) (m4 st) (c9 st) .none kV doc pm an cdv ct),osl⟩)
  (c:PySem.W.codeIn K cdv qual=true) (k:PySem.W.keepIn K (.ref f)=true):Fun K x qual st f (PySem.W.fnOf x qual (w8 st) (m4 st) (c9 st) .none kV doc pm an cdv ct):=⟨⟨oc,od,kV,doc,pm,an,cdv,ct,osl,rfl,l,c⟩,k⟩
end
theorem d0d {q:Bool} {A:Around} {k:Nat} (hr:Room q k A):A.units+1<cLine:=Nat.lt_of_le_of_lt (Nat.add_le_add_left (by decide:1<=64) _) hr.units
section
variable {X:Cx}
theorem pv (i:Nat) {x:Str} {pos:Pos} (hN:X.N[i]?=some x:=by rfl) (hv:Vis X.env.scope x:=by first | exact Or.inl rfl | exact Or.inr (Or.inl rfl) | exact Or.inr (Or.inr rfl)) (hd:(x==("__debug__" : Str))=false:=by decide)
  (hcd:(x==("__classdict__" : Str))=false:=by decide):PE X (.Name x pos) (c3s i):=b6p hN hv hd hcd
theorem b1b:o0 X (.builtin "len") (λxs H Q=>∃ a kvs,xs=[V.ref a]/\H a=some (.dK kvs)/\Q (.int kvs.length) H):=by
 intro pins s σ H xs us Q I r h
 obtain ⟨a,kvs,rfl,ha,q⟩:=h
 obtain ⟨u,rfl,ru⟩:=O0 r
 cases ru
 exact c9x I (.inl ha) λt s' I'=>⟨.int kvs.length,H,I',⟨t,rfl⟩,q⟩
end
theorem c2h {A B:Prop} (h:A):if true=true then A else B:=by
 rw [if_pos rfl]
 exact h
noncomputable def Same (H H':Hp):Prop:=∀ b o,H b=some o->H' b=some o
theorem Same.seq {K:PySem.W.Frag} {H H':Hp} {a:Addr} {xs:List V} (e:Same H H') (h:SqL K H a xs):SqL K H' a xs:=by
 rcases h with (h | ⟨o,h⟩) | h
 ·exact .inl (.inl (e _ _ h))
 ·exact .inl (.inr ⟨o,e _ _ h⟩)
 ·exact .inr h
end L2
end

section
set_option maxHeartbeats 4000000
namespace L2
open PySem PySem.Spec PyProof.Rows
theorem a1e {α β:Type} (g:β->α->β) {f:α->β->Sem (ForInStep β)}:∀ (l:List α) (c:β),(∀ x∈l,∀ c,f x c=pure (.yield (g c x)))->forIn l c f=pure (l.foldl g c)
 | [],_,_=>rfl
 | x :: l,c,h=>by
  rw [List.forIn_cons,h x List.mem_cons_self,pure_bind]
  exact a1e g l (g c x) λy hy=>h y (List.mem_cons_of_mem _ hy)
noncomputable def u3 (cells:List (Str×Addr)) (acc:List (Str×Addr)) (x:Str×NameKind):List (Str×Addr):=if x.2=NameKind.free then (x.1,(cells.lookup x.1).getD 0) :: acc else acc
noncomputable def L7 (cells:List (Str×Addr)) (names:List (Str×NameKind)):List (Str×Addr):=names.foldl (u3 cells) []
theorem D6 {scope:Scope} {env:Env} (h:∀ x∈scope.names,x.2=NameKind.free->∃ c,env.cells.lookup x.1=some c):closureFor scope env=pure (L7 env.cells scope.names):=by
 simp only [closureFor]
 rw [a1e (u3 env.cells) scope.names [] (λx hx c=>by
  obtain ⟨n,k⟩:=x
  by_cases hk:k=NameKind.free
  ·subst hk
   obtain ⟨a,ha⟩:=h _ hx rfl
   simp [cellOf,u3,ha]
  ·have:(k==NameKind.free)=false:=by simpa using hk
   simp [u3,hk,this])]
 rfl
theorem P1 {cells:List (Str×Addr)}:∀ (names:List (Str×NameKind)) (acc:List (Str×Addr)),(∀ x∈names,x.2=NameKind.free->∃ c,cells.lookup x.1=some c)->(∀ x c,acc.lookup x=some c->cells.lookup x=some c) ->
  ∀ x c,(names.foldl (u3 cells) acc).lookup x=some c->cells.lookup x=some c
 | [],_,_,ha,x,c,e=>ha x c e
 | y :: r,acc,hn,ha,x,c,e=>by
  refine P1 r (u3 cells acc y) (λz hz=>hn z (List.mem_cons_of_mem _ hz)) (λz d q=>?_) x c e
  unfold u3 at q
  split at q
  ·rename_i hk
   obtain ⟨a,hy⟩:=hn y List.mem_cons_self hk
   rw [List.lookup_cons] at q
   split at q
   ·rename_i hz
    have hz':z=y.1:=by simpa using hz
    rw [hy] at q
    rw [hz',hy];exact q
   ·exact ha z d q
  ·exact ha z d q
theorem a0l {cells:List (Str×Addr)}:∀ (names:List (Str×NameKind)) (acc:List (Str×Addr)) (x:Str),(acc.lookup x).isSome=true->((names.foldl (u3 cells) acc).lookup x).isSome=true
 | [],_,_,h=>h
 | y :: r,acc,x,h=>by
  refine a0l r (u3 cells acc y) x ?_
  unfold u3
  split
  ·rw [List.lookup_cons];split
   ·rfl
   ·exact h
  ·exact h
theorem a06 {cells:List (Str×Addr)}:∀ (names:List (Str×NameKind)) (acc:List (Str×Addr)) (x:Str),(x,NameKind.free)∈names->((names.foldl (u3 cells) acc).lookup x).isSome=true
 | [],_,_,h=>nomatch h
 | y :: r,acc,x,h=>by
  rcases List.mem_cons.mp h with h | h
  ·subst h
   refine a0l r _ x ?_
   simp [u3]
  ·exact a06 r _ x h
theorem mem_of_lookup {α β:Type} [BEq α] [LawfulBEq α]:∀ {l:List (α×β)} {x:α} {y:β},l.lookup x=some y->(x,y)∈l
 | [],_,_,h=>by simp at h
 | (a,b) :: r,x,y,h=>by
  rw [List.lookup_cons] at h
  split at h
  ·rename_i hx
   have:x=a:=by simpa using hx
   cases h;subst this;exact List.mem_cons_self
  ·exact List.mem_cons_of_mem _ (mem_of_lookup h)
theorem W9 {f:Str×NameKind->Str×NameKind} (hf:∀ y,(f y).1=y.1):∀ (l:List (Str×NameKind)) (x:Str),(l.map f).lookup x=(l.lookup x).map λk=>(f (x,k)).2
 | [],_=>rfl
 | (n,k) :: r,x=>by
  rw [List.map_cons,show f (n,k) :: r.map f=((f (n,k)).1,(f (n,k)).2) :: r.map f from rfl,List.lookup_cons,List.lookup_cons,hf]
  cases hx:x==n with
  | true=>
   have e:x=n:=by simpa using hx
   subst e;rfl
  | false=>exact W9 hf r x
noncomputable def rlF (env:Env) (y:Str×NameKind):Str×NameKind:=if (y.2==.free&&env.scope.kind==.function&&env.kindOf y.1==some .cell) then (y.1,.cell) else (y.1,y.2)
theorem b8u (env:Env) (y:Str×NameKind):(rlF env y).1=y.1:=by unfold rlF;split <;> rfl
theorem J4 (scope:Scope) (env:Env) (x:Str):(relabel scope env).names.lookup x=(scope.names.lookup x).map λk=>(rlF env (x,k)).2:=W9 (f:=rlF env) (b8u env) scope.names x
theorem a1r {scope:Scope} {env:Env} {x:Str} (h:scope.names.lookup x=some .free):(relabel scope env).names.lookup x=some .cell\/(relabel scope env).names.lookup x=some .free:=by
 rw [J4,h]
 show some (rlF env (x,.free)).2=_\/some (rlF env (x,.free)).2=_
 unfold rlF
 split
 ·exact .inl rfl
 ·exact .inr rfl
theorem T7 {scope:Scope} {env:Env} {x:Str} {k:NameKind} (h:(relabel scope env).names.lookup x=some k) (hk:k=.cell\/k=.free) (hc:∀ y∈scope.names,y.2≠NameKind.cell):scope.names.lookup x=some .free:=by
 rw [J4] at h
 cases e:scope.names.lookup x with
 | none=>rw [e] at h;cases h
 | some k'=>
  rw [e] at h
  have h':(rlF env (x,k')).2=k:=Option.some.inj h
  have hn:=hc (x,k') (mem_of_lookup e)
  unfold rlF at h'
  split at h'
  ·rename_i hb
   simp only [Bool.and_eq_true,beq_iff_eq] at hb
   exact congrArg some hb.1.1
  ·have h'':k'=k:=h'
   subst h''
   rcases hk with rfl | rfl
   ·exact absurd rfl hn
   ·rfl
theorem HOk.sameBut {P:Program} {w:World} {H:Hp} {h h':Heap} {a:Addr} (ok:HOk P w H h) (hf:H a=none) (hs:Heap.SameBut a h h'):HOk P w H h':=λb ob e=>by
 refine (ok b ob e).stay (λc w' hc q=>(hs.2 c ?_).trans q) (λ_ q=>q) λ_ _ q=>q
 rintro rfl
 rcases hc with rfl | hc
 ·rw [hf] at e;cases e
 ·rw [hf] at hc;cases hc
theorem Un.sameBut {fs ex:List Addr} {H H':Hp} {h h1 h':Heap} {C:Addr} (u:Un fs ex H H' h h1) (hs:Heap.SameBut C h1 h') (hC:h.objs.size<=C):Un fs ex H H' h h':=by
 have ne:∀ b o,h.get? b=some o->b≠C:=λb o e=>Nat.ne_of_lt (Nat.lt_of_lt_of_le (Heap.lt_size e) hC)
 exact ⟨λb o e n hb hx=>(hs.2 b (ne b o e)).trans (u.keep b o e n hb hx),λb o e n hb hx=>let ⟨sl,q⟩:=u.slot b o e n hb hx;⟨sl,(hs.2 b (ne b o e)).trans q⟩,u.free,
  λb o e hx=>let ⟨o',q⟩:=u.there b o e hx;⟨o',(hs.2 b (ne b o e)).trans q⟩,u.tups,u.frzs,u.tbls⟩
noncomputable def c8 (X:Cx) (pins:List (Addr×Obj)) (N':List Str) (scope:Scope) (C:Addr) (fp:List Addr) (s:Shared) (H:Hp):Cx where
 prog:=X.prog
 w:=X.w
 K:=X.K
 mg:=X.mg
 base:=X.base
 A:=X.A
 N:=N'
 s₀:=s
 H₀:=H
 env:=compEnvC scope (L7 X.env.cells scope.names) C X.env
 outer:=X.stack
 stack:=X.stack
 ex:=fp
 fn:=λ_=>false
 calm:=X.calm
 pn:=X.pn++pins
 xe:=λ_ _=>False
structure CompText (N:List Str) (env:Env) (N':List Str) (k:Nat) (caps:List Nat) (scope:Scope):Prop where
 kind:scope.kind=.function
 cell:∀ y∈scope.names,y.2≠NameKind.cell
 loc:∀ y∈scope.names,y.2=NameKind.local->scope.names.lookup y.1=some .local
 free:∀ y∈scope.names,y.2=NameKind.free->scope.names.lookup y.1=some .free/\(env.scope.names.lookup y.1=some .cell\/env.scope.names.lookup y.1=some .free)
 cps:∀ (j i:Nat),caps[j]?=some i->∃ x,N[i]?=some x/\N'[k+j]?=some x/\scope.names.lookup x=some .free
 len:N'.length=k+caps.length
noncomputable def v8 (caps:List Nat) (σ:St):St:=caps.map λi=>(σ[i]?).join
theorem b3u {caps:List Nat} {σ:St} {j:Nat} {v:V} (h:(v8 caps σ)[j]?=some (some v)):∃ i,caps[j]?=some i/\σ[i]?=some (some v):=by
 unfold v8 at h
 rw [List.getElem?_map] at h
 cases e:caps[j]? with
 | none=>rw [e] at h;cases h
 | some i=>
  rw [e] at h
  refine ⟨i,rfl,?_⟩
  have h':(σ[i]?).join=some v:=Option.some.inj h
  cases q:σ[i]? with
  | none=>rw [q] at h';cases h'
  | some o=>rw [q] at h';exact congrArg some h'
section
variable {X:Cx} {pins:List (Addr×Obj)} {σ:St} {H:Hp} {s:Shared} {N':List Str} {k:Nat} {caps:List Nat} {scope:Scope} {fp:List Addr}
theorem b79 (T:CompText X.N X.env N' k caps scope) (I:Inv X pins σ H s) (hf:∀ b∈fp,J3 X pins H b) {C:Addr} (hC:s.heap.objs.size<=C) (hlt:∀ b∈fp,b<s.heap.objs.size):(c8 X pins N' scope C fp s H).Ok:=by
 have fr:∀ x∈scope.names,x.2=NameKind.free->∃ c,X.env.cells.lookup x.1=some c:=λx hx hk=>I.ok.has x.1 (T.free x hx hk).2
 have snd:∀ x c,(L7 X.env.cells scope.names).lookup x=some c->X.env.cells.lookup x=some c:=P1 scope.names [] fr λx c e=>by simp at e
 refine ⟨I.mod,?_,I.ok.glob,I.ok.blt,hC,λx y c a b=>I.ok.inj x y c (snd x c a) (snd y c b),λx hx=>?_,λx c hfn=>(by cases hfn),I.ok.hd,I.ok.frames,.inl rfl,λb hb=>⟨?_,λx c e=>(hf b hb).2.2.2.2.1 x c (snd x c e)⟩,I.bs,?_,λb o e hb=>?_,λb hb hfs=>?_,I.stack,I.stkFree⟩
 ·exact T.kind
 ·have h:scope.names.lookup x=some .free:=by
   rcases hx with hx | hx
   ·exact T7 hx (.inl rfl) T.cell
   ·exact T7 hx (.inr rfl) T.cell
  exact Option.isSome_iff_exists.mp (a06 scope.names [] x (mem_of_lookup h))
 ·exact Nat.ne_of_lt (Nat.lt_of_lt_of_le (hlt b hb) hC)
 ·exact Nat.le_trans I.ok.bsz I.sz
 ·rcases (hf b hb).2.2.2.1 with z | z
  ·exact I.ok.noex b o e z
  ·exact absurd (Nat.lt_of_lt_of_le (Heap.lt_size (I.ok.bs b o e).1) z) (Nat.lt_irrefl _)
 ·rcases List.mem_cons.mp (I.stkSub b hfs) with z | z
  ·exact (hf b hb).2.1 z
  ·exact (hf b hb).2.2.1 z
theorem P0 (T:CompText X.N X.env N' k caps scope) (I:Inv X pins σ H s) (hf:∀ b∈fp,J3 X pins H b) (hlt:∀ b∈fp,b<s.heap.objs.size) {h':Heap} {m:Str->Option Value} {t:Nat}
  (hn:h'.Ns (s.heap.objs.size+1) m) (hk:∀ b o,s.heap.get? b=some o->h'.get? b=some o) (ha:h'.get? s.heap.objs.size=some { cls:=.type "list",data:=.seq #[] }) :
  Inv (c8 X pins N' scope (s.heap.objs.size+1) fp s H) [] (List.replicate k none++v8 caps σ) (upd H s.heap.objs.size (.lst [])) { s with heap:=h',toks:=t }:=by
 have ok:=b79 T I hf (C:=s.heap.objs.size+1) (Nat.le_succ _) hlt
 have fr:∀ x∈scope.names,x.2=NameKind.free->∃ c,X.env.cells.lookup x.1=some c:=λx hx hk=>I.ok.has x.1 (T.free x hx hk).2
 have snd:∀ x c,(L7 X.env.cells scope.names).lookup x=some c->X.env.cells.lookup x=some c:=P1 scope.names [] fr λx c e=>by simp at e
 have nacc:H s.heap.objs.size=none:=I.hok.fresh (Nat.le_refl _)
 have lt:∀ b u,H b=some u->b<s.heap.objs.size:=λb u e=>I.hok.lt e
 refine ⟨ok,rfl,I.bare,Un.laid hk (Nat.le_refl _) nacc,⟨m,hn,λi x v e1 e2 e3=>?_⟩,λx c e=>?_,?_,λx c e=>?_,λp hp=>?_,I.hok.laid hk (Nat.le_refl _) ⟨Nat.zero_le _,[],_,.nil,ha⟩,?_⟩
 ·by_cases hi:i<k
  ·rw [List.getElem?_append_left (by simpa using hi)] at e2
   simp [hi] at e2
  ·rw [List.getElem?_append_right (by simpa using Nat.le_of_not_lt hi)] at e2
   rw [List.length_replicate] at e2
   obtain ⟨j,hj,hv⟩:=b3u e2
   obtain ⟨y,h1,h2,h3⟩:=T.cps _ _ hj
   have hik:k+(i-k)=i:=by omega
   rw [hik] at h2
   have hxy:y=x:=Option.some.inj (h2.symm.trans e1)
   subst hxy
   have hvis:=(T.free (y,.free) (mem_of_lookup h3) rfl).2
   obtain ⟨mX,hnX,hlX⟩:=I.loc
   obtain ⟨u,r,l⟩:=hlX j y v h1 hv (by rcases hvis with z | z;exact .inr (.inl z);exact .inr (.inr z))
   refine ⟨u,r,?_⟩
   rcases l with ⟨hk',_⟩ | ⟨_,c,hc,hcell⟩
   ·have hk'':X.env.scope.names.lookup y=some .local:=hk'
    rcases hvis with z | z
    ·rw [hk''] at z;cases z
    ·rw [hk''] at z;cases z
   ·obtain ⟨c',hc'⟩:=Option.isSome_iff_exists.mp (a06 (cells:=X.env.cells) scope.names [] y (mem_of_lookup h3))
    have:c'=c:=Option.some.inj ((snd y c' hc').symm.trans hc)
    subst this
    obtain ⟨oc,ho,hd⟩:=hcell
    exact .inr ⟨a1r h3,c',hc',oc,hk _ _ ho,hd⟩
 ·obtain ⟨v,oc,ho,hd⟩:=I.cell x c (snd x c e)
  exact ⟨v,oc,hk _ _ ho,hd⟩
 ·show upd H s.heap.objs.size (.lst []) (s.heap.objs.size+1)=none
  rw [b9 (Nat.succ_ne_self _)]
  exact I.hok.fresh (Nat.le_succ _)
 ·obtain ⟨v,oc,ho,hd⟩:=I.cell x c (snd x c e)
  rw [b9 (Nat.ne_of_lt (Heap.lt_size ho))]
  exact I.freeC x c (snd x c e)
 ·have hp':p∈X.pn++pins:=by
   have:p∈(X.pn++pins)++[]:=hp
   rwa [List.append_nil] at this
  obtain ⟨e,n,ne,nf,d⟩:=I.pin p hp'
  refine ⟨hk _ _ e,?_,Nat.ne_of_lt (Nat.lt_succ_of_lt (Heap.lt_size e)),λhb=>?_,d⟩
  ·rw [b9 (Nat.ne_of_lt (Heap.lt_size e))];exact n
  ·rcases List.mem_cons.mp (I.stkSub p.1 hb) with z | z
   ·exact ne z
   ·exact nf z
 ·show _=N'.length
  rw [T.len,List.length_append,List.length_replicate]
  unfold v8
  rw [List.length_map]
end
noncomputable def PTL (X:Cx) (ifs:List Expr) (t:TT):Prop:=
 ∀ (pins:List (Addr×Obj)) (s:Shared) (σ:St) (H:Hp) (Q:Bool->Hp->Prop),Inv X pins σ H s->t σ H Q ->
  wpAny (model X.prog X.w) X.A (forIn ifs true λc r=>if r=true then do let ok <- isTrue c X.env (eval c X.env);pure (ForInStep.yield ok) else pure (ForInStep.yield r)) (TP X pins σ Q) X.xe s
noncomputable def tTrue:TT:=λ_ H Q=>Q true H
theorem c0b {X:Cx}:PTL X [] tTrue:=λ_ _ _ H _ I h=>by
 rw [List.forIn_nil]
 exact wpAny_pure ⟨H,I,h⟩
theorem b6w {X:Cx} {c:Expr} {t:TT} (h:PT X c t):PTL X [c] t:=λpins s σ H Q I q=>by
 rw [List.forIn_cons]
 refine wpAny_bind ?_
 rw [if_pos rfl]
 refine wpAny_bind (thn (h pins s σ H Q I q) λb s' ⟨H',I',q'⟩=>wpAny_pure ?_)
 dsimp only
 rw [List.forIn_nil]
 exact wpAny_pure ⟨H',I',q'⟩
noncomputable def b5b (caps:List Nat) (wi:TI) (tc:TT) (te:TE):TE:=λσ H Q=>wi σ H λJ H1=>∀ acc,H1 acc=none->∃ W:Nat->Nat->List V->Hp->Prop,(∃ m,W 0 m [] (upd H1 acc (.lst []))) /\
 ∀ i m ys H2,W i m ys H2->H2 acc=some (.lst ys)/\((J.stop i H2/\Q (.ref acc) H2)\/(J.go i H2/\∀ x H3,J.yld i H2 x H3->tc (some x :: v8 caps σ) H3 λb H5=>
  if b=true then te (some x :: v8 caps σ) H5 λy H6=>H6 acc=some (.lst ys)/\ys.length<sizeLine/\∃ m',m'<m/\W (i+1) m' (ys++[y]) (upd H6 acc (.lst (ys++[y])))
  else ∃ m',m'<m/\W (i+1) m' ys H5))
theorem B5 {M:Model} {A:Around} {E:Value->Shared->Prop} {s:Shared} {α:Type} {t:Sem α} {Q:α->Shared->Prop} {u:Sem Unit} (hu:u=pure ()) (h:wpAny M A u (λ_ s1=>wpAny M A t Q E s1) E s):wpAny M A t Q E s:=by
 have h1:=wpAny_bind (f:=λ_=>t) h
 rw [hu,pure_bind] at h1
 exact h1
theorem f8 {M:Model} {A:Around} {E:Value->Shared->Prop} {s:Shared} {α:Type} {t:Sem α} {Q:α->Shared->Prop} (h:wpAny M A t Q (λ_ _=>False) s):wpAny M A t Q E s:=wpAny_mono h (λ_ _ q=>q) λ_ _ q=>q.elim
theorem b76 {X:Cx} {elt iter:Expr} {x:Str} {px:Pos} {ifs:List Expr} {scope:Scope} {pos:Pos} {N':List Str} {caps:List Nat} {wi:TI} {tc:TT} {te:TE}
  (T:CompText X.N X.env N' 1 caps scope) (hc:X.calm=true) (hN:N'.Nodup) (hx0:N'[0]?=some x) (hxl:scope.names.lookup x=some .local) (hi:PI X (.Name x px) iter wi)
  (ht:∀ pins C fp s H,PTL (c8 X pins N' scope C fp s H) ifs tc) (he:∀ pins C fp s H,PE (c8 X pins N' scope C fp s H) elt te)
  (hs:∀ x,foldedSetIterable iter X.env x=pure x:=by intro _;rfl):PE X (.ListComp elt [⟨.Name x px,iter,ifs,0⟩] scope pos) (b5b caps wi tc te):=by
 intro pins s σ H Q I h
 have fr:∀ x∈scope.names,x.2=NameKind.free->∃ c,X.env.cells.lookup x.1=some c:=λx hx hk=>I.ok.has x.1 (T.free x hx hk).2
 rw [eval_ListComp]
 refine wpAny_comprehension_free (use:=none) rfl hs (D6 fr) T.kind T.loc ?_
 refine thn (hi pins s σ H _ I h) λv s1 h1=>thn h1 λitv s2 h2=>?_
 obtain ⟨it,fp,tn,J,H2,rfl,I2,Tn,st2,f2,h2⟩:=h2
 obtain ⟨W,⟨m0,w0⟩,turn⟩:=h2 s2.heap.objs.size (I2.hok.fresh (Nat.le_refl _))
 have hlt:∀ b∈fp,b<s2.heap.objs.size:=λb hb=>let ⟨o,e,_⟩:=Tn.obj _ _ st2 b hb;Heap.lt_size e
 refine wpAny_newObj_type (wpAny_newFunctionEnv T.cell (by intro y hy;simp at hy) (λh₁ hns₁ hsb₁=>?_) T.kind)
 dsimp only at hns₁ hsb₁ ⊢
 have hC:(s2.heap.push { cls:=.type "list",dict:=none,data:=.seq ([]:List Value).toArray }).objs.size=s2.heap.objs.size+1:=Heap.size_push ..
 rw [hC] at hns₁ hsb₁
 have old:∀ b o,s2.heap.get? b=some o->h₁.get? b=some o:=λb o e=>hsb₁.extBut b o (Nat.ne_of_lt (Nat.lt_succ_of_lt (Heap.lt_size e))) (Heap.get?_push_of_some _ (Heap.get?_push_of_some _ e))
 have hacc:h₁.get? s2.heap.objs.size=some { cls:=.type "list",data:=.seq #[] }:=hsb₁.extBut _ _ (Nat.ne_of_lt (Nat.lt_succ_self _)) (Heap.get?_push_of_some _ (Heap.get?_push_size _ rfl))
 have hst₁:tn 0 h₁:=Tn.keep _ _ _ st2 λb _ o e=>old b o e
 have I3:=P0 (t:=s2.toks+([]:List (Str×Value)).length) T I2 f2 hlt hns₁ old hacc
 have stat:∀ {H':Hp},(∀ b∈fp,H' b=none)->∀ b∈fp,J3 (c8 X pins N' scope (s2.heap.objs.size+1) fp s2 H2) [] H' b:=λhn b hb=>by
  refine ⟨hn b hb,(I3.ok.exf b hb).1,I3.ok.exfs b hb,.inl hb,(I3.ok.exf b hb).2,λp hp=>?_⟩
  have hp':p∈X.pn++pins:=by
   have:p∈(X.pn++pins)++[]:=hp
   rwa [List.append_nil] at this
  exact (f2 b hb).2.2.2.2.2 p hp'
 have loop:∀ s3:Shared,s3={ s2 with heap:=h₁,toks:=s2.toks+([]:List (Str×Value)).length } ->
   codeAny (model X.prog X.w) X.A (.compLoop (.ListComp elt [⟨.Name x px,iter,ifs,0⟩] scope pos) 0 (.ref it) (.ref s2.heap.objs.size) (compEnvC scope (L7 X.env.cells scope.names) (s2.heap.objs.size+1) X.env))
    (compPost (model X.prog X.w) X.A X.xe none (EP X pins σ Q) (.ref s2.heap.objs.size) (s2.heap.objs.size+1)) s3:=by
  rintro s3 rfl
  refine codeAny_compLoop_tests (λn s'=>∃ i ys H',Inv (c8 X pins N' scope (s2.heap.objs.size+1) fp s2 H2) [] (none :: v8 caps σ) H' s'/\tn i s'.heap/\(∀ b∈fp,H' b=none)/\W i n ys H') ?_ m0
   ⟨0,[],_,I3,hst₁,λb hb=>by rw [b9 (Nat.ne_of_lt (hlt b hb))];exact (f2 b hb).1,w0⟩ (λ_=>rfl)
  rintro n s4 ⟨i,ys,H4,I4,st4,fr4,w4⟩
  obtain ⟨hacc4,turn4⟩:=turn i n ys H4 w4
  refine f8 ?_
  rcases turn4 with ⟨stop,q⟩ | ⟨go,step⟩
  ·refine thn (Tn.done (c8 X pins N' scope (s2.heap.objs.size+1) fp s2 H2) rfl rfl rfl hc i [] s4 _ H4 (λ_ _=>False) I4 (stat fr4) st4 stop) λr s5 ⟨hr,I5⟩=>?_
   subst hr
   obtain ⟨m5,hn5,_⟩:=id I5.loc
   refine ⟨m5,hn5,λh' hs'=>?_⟩
   refine ⟨.ref s2.heap.objs.size,H4,?_,rfl,q⟩
   refine I2.call' (ch:=fp) (s':={ s5 with heap:=h' }) I5.os (Un.sameBut I5.base hs' (Nat.le_succ _)) (I5.hok.sameBut I5.free hs') I5.bare λb hb=>?_
   have:=f2 b hb
   exact ⟨this.2.2.2.1,this.2.1,this.2.2.2.2.1,this.2.2.2.2.2⟩
  ·refine thn (Tn.item (c8 X pins N' scope (s2.heap.objs.size+1) fp s2 H2) rfl rfl rfl hc i [] s4 _ H4 (λ_ _=>False) I4 (stat fr4) st4 go) λr s5 ⟨u,hr,h5⟩=>?_
   subst hr
   dsimp only
   refine f8 (B5 (u:=letOwnedTupleGo (.Name x px) (.ref it) u) rfl (thn h5 λ_ s6 ⟨xv,H6,I6,r6,y6,st6,fr6⟩=>?_))
   have I6':=I6.pinned (stat fr6) (Tn.obj _ _ st6)
   refine thn (M9 (X:=c8 X pins N' scope (s2.heap.objs.size+1) fp s2 H2) (i:=0) hN hx0 (.inl (lookup_relabel_local hxl)) (.inr (lookup_relabel_local hxl)) _ s6 _ H6 xv u (λσ2 H4=>σ2=some xv :: v8 caps σ/\H4=H6) I6' r6 ⟨rfl,rfl⟩) λ_ s7 ⟨σ7,H7,I7,e7,e7'⟩=>?_
   subst e7 e7'
   have back:∀ {σ8:St} {H8:Hp} {s8:Shared},Inv (c8 X pins N' scope (s2.heap.objs.size+1) fp s2 H2) ([]++u9 fp s6.heap) σ8 H8 s8->tn (i+1) s8.heap/\∀ b∈fp,H8 b=none:=λ{σ8 H8 s8} I8=>by
    refine ⟨Tn.keep _ _ _ st6 λb hb o e=>(I8.pin (b,o) (List.mem_append_right _ (List.mem_append_right _ (m7 hb e)))).1,λb hb=>?_⟩
    obtain ⟨o,e,d⟩:=Tn.obj _ _ st6 b hb
    exact (I8.pin (b,o) (List.mem_append_right _ (List.mem_append_right _ (m7 hb e)))).2.1
   refine f8 (thn (ht pins _ fp s2 H2 _ s7 _ _ _ I7 (step xv _ y6)) λb s8 ⟨H8,I8,q8⟩=>?_)
   have wk:∀ {H9:Hp} {s9:Shared},Inv (c8 X pins N' scope (s2.heap.objs.size+1) fp s2 H2) ([]++u9 fp s6.heap) (some xv :: v8 caps σ) H9 s9->Inv (c8 X pins N' scope (s2.heap.objs.size+1) fp s2 H2) [] (none :: v8 caps σ) H9 s9:=λ{H9 s9} I9=>
    I9.unpinned.weak rfl λj v e=>by
     cases j with
     | zero=>simp at e
     | succ j=>simpa using e
   cases b with
   | false=>
    obtain ⟨m',hm,w'⟩:=q8
    exact ⟨m',hm,i+1,ys,H8,wk I8,(back I8).1,(back I8).2,w'⟩
   | true=>
    refine f8 (thn (he pins _ fp s2 H2 _ s8 _ H8 _ I8 q8) λz s9 ⟨y,H9,I9,r9,hacc9,hl9,m',hm,w'⟩=>?_)
    refine f8 (thn (M0 (X:=c8 X pins N' scope (s2.heap.objs.size+1) fp s2 H2) _ s9 _ H9 (.ref s2.heap.objs.size) [y] (.ref s2.heap.objs.size) [z] (λ_ H'=>H'=upd H9 s2.heap.objs.size (.lst (ys++[y]))) I9 rfl (.cons r9 .nil) ⟨_,ys,y,rfl,rfl,hacc9,hl9,rfl⟩) λ_ s10 ⟨_,H10,I10,_,e10⟩=>?_)
    subst e10
    exact ⟨m',hm,i+1,ys++[y],_,wk I10,(back I10).1,(back I10).2,w'⟩
 have fin:=codeAny_compStart_list (loop _ rfl) (Tn.self _ 0 _ _ _ hst₁ (loop _ rfl))
 rw [<- hC] at fin
 exact fin
theorem a7e {X:Cx} {elt iter:Expr} {x:Str} {px:Pos} {y:Str} {py spos:Pos} {iy:Nat} {ifs:List Expr} {scope:Scope} {pos:Pos} {N':List Str} {caps:List Nat} {wi:TI} {tc:TT} {te:TE}
  (hsw:swapsWith (.ListComp elt [⟨.Name x px,iter,ifs,0⟩] scope pos) (some (.Name y py)) spos.line X.env=pure true) (hNX:X.N.Nodup) (hiy:X.N[iy]?=some y) (hy:Loc X.env.scope y) (hf:X.fn y=true\/X.env.scope.names.lookup y=some .local)
  (T:CompText X.N X.env N' 1 caps scope) (hc:X.calm=true) (hN:N'.Nodup) (hx0:N'[0]?=some x) (hxl:scope.names.lookup x=some .local) (hi:PI X (.Name x px) iter wi)
  (ht:∀ pins C fp s H,PTL (c8 X pins N' scope C fp s H) ifs tc) (he:∀ pins C fp s H,PE (c8 X pins N' scope C fp s H) elt te)
  (hs:∀ x,foldedSetIterable iter X.env x=pure x:=by intro _;rfl):PS X (.Assign [.Name y py] (.ListComp elt [⟨.Name x px,iter,ifs,0⟩] scope pos) spos) (b7u (b5b caps wi tc te) (a9g iy)):=by
 intro pins s σ H D I h
 have fr:∀ x∈scope.names,x.2=NameKind.free->∃ c,X.env.cells.lookup x.1=some c:=λx hx hk=>I.ok.has x.1 (T.free x hx hk).2
 rw [exec_Assign_Name_used _ _ _ _ hsw]
 refine wpAny_bind (wpAny_standAt (wpAny_bind ?_))
 show wpAny _ X.A (do let _ <- comprehension (.ListComp elt [⟨.Name x px,iter,ifs,0⟩] scope pos) scope X.env _ (newList []) false (eval iter X.env) (some (assign (.Name y py) X.env))) _ _ s
 refine wpAny_bind (wpAny_mono (wpAny_comprehension_free (use:=some (assign (.Name y py) X.env)) (Q:=λ_ s'=>SP X pins D .next s') rfl hs (D6 fr) T.kind T.loc ?_) (λ_ s' hq=>wpAny_pure (wpAny_pure hq)) λ_ _ e=>e)
 refine thn (hi pins s σ H _ I h) λv s1 h1=>thn h1 λitv s2 h2=>?_
 obtain ⟨it,fp,tn,J,H2,rfl,I2,Tn,st2,f2,h2⟩:=h2
 obtain ⟨W,⟨m0,w0⟩,turn⟩:=h2 s2.heap.objs.size (I2.hok.fresh (Nat.le_refl _))
 have hlt:∀ b∈fp,b<s2.heap.objs.size:=λb hb=>let ⟨o,e,_⟩:=Tn.obj _ _ st2 b hb;Heap.lt_size e
 refine wpAny_newObj_type (wpAny_newFunctionEnv T.cell (by intro y hy;simp at hy) (λh₁ hns₁ hsb₁=>?_) T.kind)
 dsimp only at hns₁ hsb₁ ⊢
 have hC:(s2.heap.push { cls:=.type "list",dict:=none,data:=.seq ([]:List Value).toArray }).objs.size=s2.heap.objs.size+1:=Heap.size_push ..
 rw [hC] at hns₁ hsb₁
 have old:∀ b o,s2.heap.get? b=some o->h₁.get? b=some o:=λb o e=>hsb₁.extBut b o (Nat.ne_of_lt (Nat.lt_succ_of_lt (Heap.lt_size e))) (Heap.get?_push_of_some _ (Heap.get?_push_of_some _ e))
 have hacc:h₁.get? s2.heap.objs.size=some { cls:=.type "list",data:=.seq #[] }:=hsb₁.extBut _ _ (Nat.ne_of_lt (Nat.lt_succ_self _)) (Heap.get?_push_of_some _ (Heap.get?_push_size _ rfl))
 have hst₁:tn 0 h₁:=Tn.keep _ _ _ st2 λb _ o e=>old b o e
 have I3:=P0 (t:=s2.toks+([]:List (Str×Value)).length) T I2 f2 hlt hns₁ old hacc
 have stat:∀ {H':Hp},(∀ b∈fp,H' b=none)->∀ b∈fp,J3 (c8 X pins N' scope (s2.heap.objs.size+1) fp s2 H2) [] H' b:=λhn b hb=>by
  refine ⟨hn b hb,(I3.ok.exf b hb).1,I3.ok.exfs b hb,.inl hb,(I3.ok.exf b hb).2,λp hp=>?_⟩
  have hp':p∈X.pn++pins:=by
   have:p∈(X.pn++pins)++[]:=hp
   rwa [List.append_nil] at this
  exact (f2 b hb).2.2.2.2.2 p hp'
 have loop:∀ s3:Shared,s3={ s2 with heap:=h₁,toks:=s2.toks+([]:List (Str×Value)).length } ->
   codeAny (model X.prog X.w) X.A (.compLoop (.ListComp elt [⟨.Name x px,iter,ifs,0⟩] scope pos) 0 (.ref it) (.ref s2.heap.objs.size) (compEnvC scope (L7 X.env.cells scope.names) (s2.heap.objs.size+1) X.env))
    (compPost (model X.prog X.w) X.A X.xe (some (assign (.Name y py) X.env)) (λ_ s'=>SP X pins D .next s') (.ref s2.heap.objs.size) (s2.heap.objs.size+1)) s3:=by
  rintro s3 rfl
  refine codeAny_compLoop_tests (λn s'=>∃ i ys H',Inv (c8 X pins N' scope (s2.heap.objs.size+1) fp s2 H2) [] (none :: v8 caps σ) H' s'/\tn i s'.heap/\(∀ b∈fp,H' b=none)/\W i n ys H') ?_ m0
   ⟨0,[],_,I3,hst₁,λb hb=>by rw [b9 (Nat.ne_of_lt (hlt b hb))];exact (f2 b hb).1,w0⟩ (λ_=>rfl)
  rintro n s4 ⟨i,ys,H4,I4,st4,fr4,w4⟩
  obtain ⟨hacc4,turn4⟩:=turn i n ys H4 w4
  refine f8 ?_
  rcases turn4 with ⟨stop,q⟩ | ⟨go,step⟩
  ·refine thn (Tn.done (c8 X pins N' scope (s2.heap.objs.size+1) fp s2 H2) rfl rfl rfl hc i [] s4 _ H4 (λ_ _=>False) I4 (stat fr4) st4 stop) λr s5 ⟨hr,I5⟩=>?_
   subst hr
   obtain ⟨m5,hn5,_⟩:=id I5.loc
   have IX:Inv X pins σ H4 s5:=I2.call' (ch:=fp) I5.os I5.base I5.hok I5.bare λb hb=>by
    have:=f2 b hb
    exact ⟨this.2.2.2.1,this.2.1,this.2.2.2.2.1,this.2.2.2.2.2⟩
   have C0:s2.heap.objs.size<=s2.heap.objs.size+1:=Nat.le_succ _
   have cC:∀ z c,X.env.cells.lookup z=some c->c≠s2.heap.objs.size+1:=λz c e=>by
    obtain ⟨v,oc,ho,_⟩:=I2.cell z c e
    exact Nat.ne_of_lt (Nat.lt_succ_of_lt (Heap.lt_size ho))
   have lC:X.env.locals≠s2.heap.objs.size+1:=Nat.ne_of_lt (Nat.lt_succ_of_lt I2.lt)
   show wpAny _ X.A (assign (.Name y py) X.env (.ref s2.heap.objs.size)) (λ_ s''=>∃ m,s''.heap.Ns (s2.heap.objs.size+1) m/\∀ h',Heap.SameBut (s2.heap.objs.size+1) s''.heap h'->SP X pins D .next { s'' with heap:=h' }) X.xe s5
   refine wpAny_assign_Name (a13 (v:=.ref s2.heap.objs.size) IX hNX hiy hy rfl (λs6 I6 ⟨a,sb,ha⟩=>?_) hf)
   have aC:s2.heap.objs.size+1≠a:=λz=>by
    rcases ha with ha | ha
    ·exact lC (by rw [<- ha,<- z])
    ·exact cC _ _ ha z.symm
   refine ⟨m5,hn5.sameBut sb aC,λh' hs'=>?_⟩
   refine ⟨_,H4,I6.turned (t':=s6.toks) (it:=s2.heap.objs.size+1) (λb o hb e=>hs'.extBut b o hb e) I5.free lC.symm (.inr (Nat.le_trans I2.sz C0)) cC (λp hp=>?_),q⟩
   exact Nat.ne_of_lt (Nat.lt_succ_of_lt (Heap.lt_size (I2.pin p hp).1))
  ·refine thn (Tn.item (c8 X pins N' scope (s2.heap.objs.size+1) fp s2 H2) rfl rfl rfl hc i [] s4 _ H4 (λ_ _=>False) I4 (stat fr4) st4 go) λr s5 ⟨u,hr,h5⟩=>?_
   subst hr
   dsimp only
   refine f8 (B5 (u:=letOwnedTupleGo (.Name x px) (.ref it) u) rfl (thn h5 λ_ s6 ⟨xv,H6,I6,r6,y6,st6,fr6⟩=>?_))
   have I6':=I6.pinned (stat fr6) (Tn.obj _ _ st6)
   refine thn (M9 (X:=c8 X pins N' scope (s2.heap.objs.size+1) fp s2 H2) (i:=0) hN hx0 (.inl (lookup_relabel_local hxl)) (.inr (lookup_relabel_local hxl)) _ s6 _ H6 xv u (λσ2 H4=>σ2=some xv :: v8 caps σ/\H4=H6) I6' r6 ⟨rfl,rfl⟩) λ_ s7 ⟨σ7,H7,I7,e7,e7'⟩=>?_
   subst e7 e7'
   have back:∀ {σ8:St} {H8:Hp} {s8:Shared},Inv (c8 X pins N' scope (s2.heap.objs.size+1) fp s2 H2) ([]++u9 fp s6.heap) σ8 H8 s8->tn (i+1) s8.heap/\∀ b∈fp,H8 b=none:=λ{σ8 H8 s8} I8=>by
    refine ⟨Tn.keep _ _ _ st6 λb hb o e=>(I8.pin (b,o) (List.mem_append_right _ (List.mem_append_right _ (m7 hb e)))).1,λb hb=>?_⟩
    obtain ⟨o,e,d⟩:=Tn.obj _ _ st6 b hb
    exact (I8.pin (b,o) (List.mem_append_right _ (List.mem_append_right _ (m7 hb e)))).2.1
   refine f8 (thn (ht pins _ fp s2 H2 _ s7 _ _ _ I7 (step xv _ y6)) λb s8 ⟨H8,I8,q8⟩=>?_)
   have wk:∀ {H9:Hp} {s9:Shared},Inv (c8 X pins N' scope (s2.heap.objs.size+1) fp s2 H2) ([]++u9 fp s6.heap) (some xv :: v8 caps σ) H9 s9->Inv (c8 X pins N' scope (s2.heap.objs.size+1) fp s2 H2) [] (none :: v8 caps σ) H9 s9:=λ{H9 s9} I9=>
    I9.unpinned.weak rfl λj v e=>by
     cases j with
     | zero=>simp at e
     | succ j=>simpa using e
   cases b with
   | false=>
    obtain ⟨m',hm,w'⟩:=q8
    exact ⟨m',hm,i+1,ys,H8,wk I8,(back I8).1,(back I8).2,w'⟩
   | true=>
    refine f8 (thn (he pins _ fp s2 H2 _ s8 _ H8 _ I8 q8) λz s9 ⟨y,H9,I9,r9,hacc9,hl9,m',hm,w'⟩=>?_)
    refine f8 (thn (M0 (X:=c8 X pins N' scope (s2.heap.objs.size+1) fp s2 H2) _ s9 _ H9 (.ref s2.heap.objs.size) [y] (.ref s2.heap.objs.size) [z] (λ_ H'=>H'=upd H9 s2.heap.objs.size (.lst (ys++[y]))) I9 rfl (.cons r9 .nil) ⟨_,ys,y,rfl,rfl,hacc9,hl9,rfl⟩) λ_ s10 ⟨_,H10,I10,_,e10⟩=>?_)
    subst e10
    exact ⟨m',hm,i+1,ys++[y],_,wk I10,(back I10).1,(back I10).2,w'⟩
 have fin:=codeAny_compStart_list (loop _ rfl) (Tn.self _ 0 _ _ _ hst₁ (loop _ rfl))
 rw [<- hC] at fin
 exact fin
set_option maxHeartbeats 1000000
section
variable {prog:Program} {w:World} {A:Around} {R:Result->Shared->Prop} {s:Shared}
theorem a6a (elt t0 i0 target iter:Expr) (ifs0 ifs:List Expr) (scope:Scope) (pos:Pos) (it acc:Value) (env:PySem.Env) :
  compTurn (.ListComp elt [⟨t0,i0,ifs0,0⟩,⟨target,iter,ifs,0⟩] scope pos) 1 it acc env=(do
   standAt iter.pos
   match <- pyNext it with
   | none=>pure (.done .next)
   | some v=>
    letOwnedTupleGo target it v
    assign target env v
    let mut ok:=true
    for c in ifs do
     if ok then ok <- isTrue c env (eval c env)
    if ok then
     (do let _ <- call (.builtin "list.append") [acc,<- eval elt env])
    again (.compLoop (.ListComp elt [⟨t0,i0,ifs0,0⟩,⟨target,iter,ifs,0⟩] scope pos) 1 it acc env)):=by rfl
theorem c00 {elt t0 i0 target iter:Expr} {ifs0 ifs:List Expr} {scope:Scope} {pos:Pos} {it acc:Value} {env:PySem.Env} (I:Nat->Shared->Prop)
  (turn:∀ n s,I n s->wpAny (model prog w) A (pyNext it) (λr s₁=>match r with
   | none=>R (.ok .next) s₁
   | some v=>wpAny (model prog w) A (assign target env v) (λ_ s₂=>
     wpAny (model prog w) A (forIn ifs true λc r=>if r=true then do let ok <- isTrue c env (eval c env);pure (ForInStep.yield ok) else pure (ForInStep.yield r)) (λok s₃=>
      if ok=true then wpAny (model prog w) A (eval elt env) (λx s₄=>
       wpAny (model prog w) A (call (.builtin "list.append") [acc,x]) (λ_ s₅=>∃ m,m<n/\I m s₅) (notedBy (model prog w) A env λe s'=>R (.error e) s') s₄) (notedBy (model prog w) A env λe s'=>R (.error e) s') s₃
      else ∃ m,m<n/\I m s₃) (notedBy (model prog w) A env λe s'=>R (.error e) s') s₂) (notedBy (model prog w) A env λe s'=>R (.error e) s') s₁) (notedBy (model prog w) A env λe s'=>R (.error e) s') s)
  (n:Nat) (h:I n s) (ht:∀ v,letOwnedTupleGo target it v=pure ():=by intro _;rfl) :
  codeAny (model prog w) A (.compLoop (.ListComp elt [⟨t0,i0,ifs0,0⟩,⟨target,iter,ifs,0⟩] scope pos) 1 it acc env) R s:=by
 refine codeAny_loop rfl I (λn s hI=>?_) n h
 show wpAny _ A ((compTurn (.ListComp elt [⟨t0,i0,ifs0,0⟩,⟨target,iter,ifs,0⟩] scope pos) 1 it acc env).onRaise (λx=>do noteFrame x env;theTreesLotGoes x)) _ _ s
 refine wpAny_noted ?_
 rw [a6a]
 refine wpAny_bind (wpAny_standAt (wpAny_bind (wpAny_mono (turn n s hI) (λr s₁ h₁=>?_) λ_ _ h'=>h')))
 cases r with
 | none=>exact wpAny_pure h₁
 | some v=>
  refine wpAny_bind (wpAny_of_eq (ht v) ?_)
  refine wpAny_bind (wpAny_mono h₁ (λ_ s₂ h₂=>wpAny_bind (wpAny_mono h₂ (λok s₃ h₃=>?_) λ_ _ h'=>h')) λ_ _ h'=>h')
  cases ok with
  | false=>exact wpAny_pure ⟨rfl,h₃⟩
  | true=>
   exact wpAny_bind (wpAny_bind (wpAny_mono h₃ (λx s₄ h₄=>wpAny_bind (wpAny_mono h₄ (λ_ s₅ h₅=>wpAny_pure (wpAny_pure ⟨rfl,h₅⟩)) λ_ _ h'=>h')) λ_ _ h'=>h'))
theorem b6j {elt t0 i0 target iter:Expr} {ifs0 ifs:List Expr} {scope:Scope} {pos:Pos} {it acc:Value} {env:PySem.Env}
  (h0:codeAny (model prog w) A (.compLoop (.ListComp elt [⟨t0,i0,ifs0,0⟩,⟨target,iter,ifs,0⟩] scope pos) 1 it acc env) R s)
  (h:wpAny (model prog w) A (pyIter it) (λit' s'=>codeAny (model prog w) A (.compLoop (.ListComp elt [⟨t0,i0,ifs0,0⟩,⟨target,iter,ifs,0⟩] scope pos) 1 it' acc env) R s')
   (notedBy (model prog w) A env λx s'=>R (.error x) s') s) :
  codeAny (model prog w) A (.compStart (.ListComp elt [⟨t0,i0,ifs0,0⟩,⟨target,iter,ifs,0⟩] scope pos) 1 it acc env) R s:=by
 refine codeAny_of_tree ?_
 show wpAny _ _ ((compStart (.ListComp elt [⟨t0,i0,ifs0,0⟩,⟨target,iter,ifs,0⟩] scope pos) 1 it acc env).onRaise (λx=>do noteFrame x env;standAt theWindowsPlace)) _ _ s
 refine wpAny_notedAt ?_
 unfold compStart
 show wpAny _ _ (ask >>= _) _ _ s
 refine wpAny_bind (wpAny_askSetting (wpAny_ite ?_))
 split
 ·first
   | exact wpAny_bind (wpAny_pure (wpAny_pure (And.intro rfl h0)))
   | exact wpAny_pure (And.intro rfl h0)
 ·first
   | exact wpAny_bind (wpAny_rule (wpAny_bind (wpAny_standAt (wpAny_bind (wpAny_mono h (λit' s' h'=>wpAny_pure (And.intro rfl h')) λ_ _ x=>x)))))
   | (refine wpAny_bind (wpAny_rule ?_);show wpAny _ _ (standAt iter.pos >>= _) _ _ s;exact wpAny_bind (wpAny_standAt (wpAny_bind (wpAny_mono h (λit' s' h'=>wpAny_pure (And.intro rfl h')) λ_ _ x=>x))))
theorem a56 (elt t0 i0 target iter:Expr) (ifs0 ifs:List Expr) (scope:Scope) (pos:Pos) (it acc:Value) (env:PySem.Env) :
  compTurn (.ListComp elt [⟨t0,i0,ifs0,0⟩,⟨target,iter,ifs,0⟩] scope pos) 0 it acc env=(do
   standAt i0.pos
   match <- pyNext it with
   | none=>pure (.done .next)
   | some v=>
    letOwnedTupleGo t0 it v
    assign t0 env v
    let mut ok:=true
    for c in ifs0 do
     if ok then ok <- isTrue c env (eval c env)
    if ok then
     let x <- eval iter env
     standAt iter.pos
     let x <- foldedSetIterable iter env x
     let _ <- runOwn (.compStart (.ListComp elt [⟨t0,i0,ifs0,0⟩,⟨target,iter,ifs,0⟩] scope pos) 1 (<- holding [x] (pyIter x)) acc env) env
    again (.compLoop (.ListComp elt [⟨t0,i0,ifs0,0⟩,⟨target,iter,ifs,0⟩] scope pos) 0 it acc env)):=by rfl
theorem b8m {elt t0 i0 target iter:Expr} {ifs0 ifs:List Expr} {scope:Scope} {pos:Pos} {it acc:Value} {env:PySem.Env} (I:Nat->Shared->Prop)
  (turn:∀ n s,I n s->wpAny (model prog w) A (pyNext it) (λr s₁=>match r with
   | none=>R (.ok .next) s₁
   | some v=>wpAny (model prog w) A (assign t0 env v) (λ_ s₂=>
     wpAny (model prog w) A (forIn ifs0 true λc r=>if r=true then do let ok <- isTrue c env (eval c env);pure (ForInStep.yield ok) else pure (ForInStep.yield r)) (λok s₃=>
      if ok=true then wpAny (model prog w) A (eval iter env) (λx s₄=>
       wpAny (model prog w) A (pyIter x) (λitv s₅=>codeAny (model prog w) A (.compStart (.ListComp elt [⟨t0,i0,ifs0,0⟩,⟨target,iter,ifs,0⟩] scope pos) 1 itv acc env) (λr s₆=>match r with
        | .ok _=>∃ m,m<n/\I m s₆
        | .error _=>False) s₅) (λ_ _=>False) s₄) (λ_ _=>False) s₃
      else ∃ m,m<n/\I m s₃) (λ_ _=>False) s₂) (λ_ _=>False) s₁) (λ_ _=>False) s)
  (n:Nat) (h:I n s) (hfs:∀ x,foldedSetIterable iter env x=pure x) (ht:∀ v,letOwnedTupleGo t0 it v=pure ():=by intro _;rfl) :
  codeAny (model prog w) A (.compLoop (.ListComp elt [⟨t0,i0,ifs0,0⟩,⟨target,iter,ifs,0⟩] scope pos) 0 it acc env) R s:=by
 refine codeAny_loop rfl I (λn s hI=>?_) n h
 show wpAny _ A ((compTurn (.ListComp elt [⟨t0,i0,ifs0,0⟩,⟨target,iter,ifs,0⟩] scope pos) 0 it acc env).onRaise (λx=>do noteFrame x env;theTreesLotGoes x)) _ _ s
 refine wpAny_noted ?_
 rw [a56]
 refine wpAny_bind (wpAny_standAt (wpAny_bind (wpAny_mono (turn n s hI) (λr s₁ h₁=>?_) λ_ _ h'=>h'.elim)))
 cases r with
 | none=>exact wpAny_pure h₁
 | some v=>
  refine wpAny_bind (wpAny_of_eq (ht v) ?_)
  refine wpAny_bind (wpAny_mono h₁ (λ_ s₂ h₂=>wpAny_bind (wpAny_mono h₂ (λok s₃ h₃=>?_) λ_ _ h'=>h'.elim)) λ_ _ h'=>h'.elim)
  cases ok with
  | false=>exact wpAny_pure ⟨rfl,h₃⟩
  | true=>
   refine wpAny_bind (wpAny_mono h₃ (λx s₄ h₄=>wpAny_bind (wpAny_standAt ?_)) λ_ _ h'=>h'.elim)
   rw [hfs x]
   refine wpAny_bind (wpAny_pure (wpAny_bind (wpAny_holding (wpAny_mono h₄ (λitv s₅ h₅=>?_) λ_ _ h'=>h'.elim))))
   refine wpAny_bind (wpAny_runOwn (codeAny_mono h₅ λr s₆ h₆=>?_))
   cases r with
   | ok f=>exact wpAny_pure ⟨rfl,h₆⟩
   | error e=>exact h₆.elim
end
set_option maxHeartbeats 2000000
noncomputable def b58 (caps:List Nat) (wi:TI) (tc:TT) (wi1:TI) (tc1:TT) (te:TE):TE:=λσ H Q=>wi σ H λJ H1=>∀ acc,H1 acc=none->∃ W:Nat->Nat->List V->Hp->Prop,(∃ m,W 0 m [] (upd H1 acc (.lst []))) /\
 ∀ i m ys H2,W i m ys H2->H2 acc=some (.lst ys)/\((J.stop i H2/\Q (.ref acc) H2)\/(J.go i H2/\∀ x H3,J.yld i H2 x H3->tc (some x :: none :: v8 caps σ) H3 λb H5=>
  if b=true then wi1 (some x :: none :: v8 caps σ) H5 λJ1 H6=>∃ W1:Nat->Nat->List V->Hp->Prop,(∃ m1,W1 0 m1 ys H6) /\
   ∀ j m1 zs H7,W1 j m1 zs H7->H7 acc=some (.lst zs)/\((J1.stop j H7/\∃ m',m'<m/\W (i+1) m' zs H7)\/(J1.go j H7/\∀ y H8,J1.yld j H7 y H8->tc1 (some x :: some y :: v8 caps σ) H8 λb2 H9=>
    if b2=true then te (some x :: some y :: v8 caps σ) H9 λz H10=>H10 acc=some (.lst zs)/\zs.length<sizeLine/\∃ m1',m1'<m1/\W1 (j+1) m1' (zs++[z]) (upd H10 acc (.lst (zs++[z])))
    else ∃ m1',m1'<m1/\W1 (j+1) m1' zs H9))
  else ∃ m',m'<m/\W (i+1) m' ys H5))
theorem b12 {X:Cx} {elt iter iter2:Expr} {x y:Str} {px py:Pos} {ifs ifs2:List Expr} {scope:Scope} {pos:Pos} {N':List Str} {caps:List Nat} {wi wi1:TI} {tc tc1:TT} {te:TE}
  (T:CompText X.N X.env N' 2 caps scope) (hc:X.calm=true) (hN:N'.Nodup) (hx0:N'[0]?=some x) (hy0:N'[1]?=some y) (hxl:scope.names.lookup x=some .local) (hyl:scope.names.lookup y=some .local) (hi:PI X (.Name x px) iter wi)
  (ht:∀ pins C fp s H,PTL (c8 X pins N' scope C fp s H) ifs tc) (hi1:∀ pins C fp s H,PI (c8 X pins N' scope C fp s H) (.Name y py) iter2 wi1) (ht1:∀ pins C fp s H,PTL (c8 X pins N' scope C fp s H) ifs2 tc1)
  (he:∀ pins C fp s H,PE (c8 X pins N' scope C fp s H) elt te)
  (hs:∀ x,foldedSetIterable iter X.env x=pure x) (hs2:∀ env x,foldedSetIterable iter2 env x=pure x):PE X (.ListComp elt [⟨.Name x px,iter,ifs,0⟩,⟨.Name y py,iter2,ifs2,0⟩] scope pos) (b58 caps wi tc wi1 tc1 te):=by
 intro pins s σ H Q I h
 have fr:∀ x∈scope.names,x.2=NameKind.free->∃ c,X.env.cells.lookup x.1=some c:=λx hx hk=>I.ok.has x.1 (T.free x hx hk).2
 rw [eval_ListComp]
 refine wpAny_comprehension_free (use:=none) rfl hs (D6 fr) T.kind T.loc ?_
 refine thn (hi pins s σ H _ I h) λv s1 h1=>thn h1 λitv s2 h2=>?_
 obtain ⟨it,fp,tn,J,H2,rfl,I2,Tn,st2,f2,h2⟩:=h2
 obtain ⟨W,⟨m0,w0⟩,turn⟩:=h2 s2.heap.objs.size (I2.hok.fresh (Nat.le_refl _))
 have hlt:∀ b∈fp,b<s2.heap.objs.size:=λb hb=>let ⟨o,e,_⟩:=Tn.obj _ _ st2 b hb;Heap.lt_size e
 refine wpAny_newObj_type (wpAny_newFunctionEnv T.cell (by intro y hy;simp at hy) (λh₁ hns₁ hsb₁=>?_) T.kind)
 dsimp only at hns₁ hsb₁ ⊢
 have hC:(s2.heap.push { cls:=.type "list",dict:=none,data:=.seq ([]:List Value).toArray }).objs.size=s2.heap.objs.size+1:=Heap.size_push ..
 rw [hC] at hns₁ hsb₁
 have old:∀ b o,s2.heap.get? b=some o->h₁.get? b=some o:=λb o e=>hsb₁.extBut b o (Nat.ne_of_lt (Nat.lt_succ_of_lt (Heap.lt_size e))) (Heap.get?_push_of_some _ (Heap.get?_push_of_some _ e))
 have hacc:h₁.get? s2.heap.objs.size=some { cls:=.type "list",data:=.seq #[] }:=hsb₁.extBut _ _ (Nat.ne_of_lt (Nat.lt_succ_self _)) (Heap.get?_push_of_some _ (Heap.get?_push_size _ rfl))
 have hst₁:tn 0 h₁:=Tn.keep _ _ _ st2 λb _ o e=>old b o e
 have I3:Inv (c8 X pins N' scope (s2.heap.objs.size+1) fp s2 H2) [] (none :: none :: v8 caps σ) (upd H2 s2.heap.objs.size (.lst [])) { s2 with heap:=h₁,toks:=s2.toks+([]:List (Str×Value)).length }:=P0 (t:=s2.toks+([]:List (Str×Value)).length) T I2 f2 hlt hns₁ old hacc
 have stat:∀ {H':Hp},(∀ b∈fp,H' b=none)->∀ b∈fp,J3 (c8 X pins N' scope (s2.heap.objs.size+1) fp s2 H2) [] H' b:=λhn b hb=>by
  refine ⟨hn b hb,(I3.ok.exf b hb).1,I3.ok.exfs b hb,.inl hb,(I3.ok.exf b hb).2,λp hp=>?_⟩
  have hp':p∈X.pn++pins:=by
   have:p∈(X.pn++pins)++[]:=hp
   rwa [List.append_nil] at this
  exact (f2 b hb).2.2.2.2.2 p hp'
 have loop:∀ s3:Shared,s3={ s2 with heap:=h₁,toks:=s2.toks+([]:List (Str×Value)).length } ->
   codeAny (model X.prog X.w) X.A (.compLoop (.ListComp elt [⟨.Name x px,iter,ifs,0⟩,⟨.Name y py,iter2,ifs2,0⟩] scope pos) 0 (.ref it) (.ref s2.heap.objs.size) (compEnvC scope (L7 X.env.cells scope.names) (s2.heap.objs.size+1) X.env))
    (compPost (model X.prog X.w) X.A X.xe none (EP X pins σ Q) (.ref s2.heap.objs.size) (s2.heap.objs.size+1)) s3:=by
  rintro s3 rfl
  refine b8m (λn s'=>∃ i ys H',Inv (c8 X pins N' scope (s2.heap.objs.size+1) fp s2 H2) [] (none :: none :: v8 caps σ) H' s'/\tn i s'.heap/\(∀ b∈fp,H' b=none)/\W i n ys H') ?_ m0
   ⟨0,[],_,I3,hst₁,λb hb=>by rw [b9 (Nat.ne_of_lt (hlt b hb))];exact (f2 b hb).1,w0⟩ (hs2 _) (λ_=>rfl)
  rintro n s4 ⟨i,ys,H4,I4,st4,fr4,w4⟩
  obtain ⟨hacc4,turn4⟩:=turn i n ys H4 w4
  rcases turn4 with ⟨stop,q⟩ | ⟨go,step⟩
  ·refine thn (Tn.done (c8 X pins N' scope (s2.heap.objs.size+1) fp s2 H2) rfl rfl rfl hc i [] s4 _ H4 (λ_ _=>False) I4 (stat fr4) st4 stop) λr s5 ⟨hr,I5⟩=>?_
   subst hr
   obtain ⟨m5,hn5,_⟩:=id I5.loc
   refine ⟨m5,hn5,λh' hs'=>?_⟩
   refine ⟨.ref s2.heap.objs.size,H4,?_,rfl,q⟩
   refine I2.call' (ch:=fp) (s':={ s5 with heap:=h' }) I5.os (Un.sameBut I5.base hs' (Nat.le_succ _)) (I5.hok.sameBut I5.free hs') I5.bare λb hb=>?_
   have:=f2 b hb
   exact ⟨this.2.2.2.1,this.2.1,this.2.2.2.2.1,this.2.2.2.2.2⟩
  ·refine thn (Tn.item (c8 X pins N' scope (s2.heap.objs.size+1) fp s2 H2) rfl rfl rfl hc i [] s4 _ H4 (λ_ _=>False) I4 (stat fr4) st4 go) λr s5 ⟨u,hr,h5⟩=>?_
   subst hr
   dsimp only
   refine f8 (B5 (u:=letOwnedTupleGo (.Name x px) (.ref it) u) rfl (thn h5 λ_ s6 ⟨xv,H6,I6,r6,y6,st6,fr6⟩=>?_))
   have I6':=I6.pinned (stat fr6) (Tn.obj _ _ st6)
   refine thn (M9 (X:=c8 X pins N' scope (s2.heap.objs.size+1) fp s2 H2) (i:=0) hN hx0 (.inl (lookup_relabel_local hxl)) (.inr (lookup_relabel_local hxl)) _ s6 _ H6 xv u (λσ2 H4=>σ2=some xv :: none :: v8 caps σ/\H4=H6) I6' r6 ⟨rfl,rfl⟩) λ_ s7 ⟨σ7,H7,I7,e7,e7'⟩=>?_
   subst e7 e7'
   have back:∀ {σ8:St} {H8:Hp} {s8:Shared},Inv (c8 X pins N' scope (s2.heap.objs.size+1) fp s2 H2) ([]++u9 fp s6.heap) σ8 H8 s8->tn (i+1) s8.heap/\∀ b∈fp,H8 b=none:=λ{σ8 H8 s8} I8=>by
    refine ⟨Tn.keep _ _ _ st6 λb hb o e=>(I8.pin (b,o) (List.mem_append_right _ (List.mem_append_right _ (m7 hb e)))).1,λb hb=>?_⟩
    obtain ⟨o,e,d⟩:=Tn.obj _ _ st6 b hb
    exact (I8.pin (b,o) (List.mem_append_right _ (List.mem_append_right _ (m7 hb e)))).2.1
   refine f8 (thn (ht pins _ fp s2 H2 _ s7 _ _ _ I7 (step xv _ y6)) λb s8 ⟨H8,I8,q8⟩=>?_)
   have wk:∀ {H9:Hp} {s9:Shared},Inv (c8 X pins N' scope (s2.heap.objs.size+1) fp s2 H2) ([]++u9 fp s6.heap) (some xv :: none :: v8 caps σ) H9 s9->Inv (c8 X pins N' scope (s2.heap.objs.size+1) fp s2 H2) [] (none :: none :: v8 caps σ) H9 s9:=λ{H9 s9} I9=>
    I9.unpinned.weak rfl λj v e=>by
     cases j with
     | zero=>simp at e
     | succ j=>simpa using e
   cases b with
   | false=>
    obtain ⟨m',hm,w'⟩:=q8
    exact ⟨m',hm,i+1,ys,H8,wk I8,(back I8).1,(back I8).2,w'⟩
   | true=>
    rw [if_pos rfl] at q8 ⊢
    refine f8 (thn (hi1 pins _ fp s2 H2 _ s8 _ H8 _ I8 q8) λv9 s9 h9=>f8 (thn h9 λitv1 s10 h10=>?_))
    obtain ⟨it1,fp1,tn1,J1,H10,rfl,I10,Tn1,st10,f10,W1,⟨m1,w1⟩,turn1⟩:=h10
    have stat1:∀ {H':Hp},(∀ b∈fp1,H' b=none)->∀ b∈fp1,J3 (c8 X pins N' scope (s2.heap.objs.size+1) fp s2 H2) ([]++u9 fp s6.heap) H' b:=λhn b hb=>⟨hn b hb,(f10 b hb).2⟩
    have loop1:∀ s11:Shared,s11=s10->codeAny (model X.prog X.w) X.A (.compLoop (.ListComp elt [⟨.Name x px,iter,ifs,0⟩,⟨.Name y py,iter2,ifs2,0⟩] scope pos) 1 (.ref it1) (.ref s2.heap.objs.size) (compEnvC scope (L7 X.env.cells scope.names) (s2.heap.objs.size+1) X.env))
      (λr s₆=>match r with
       | .ok _=>∃ m,m<n/\∃ i ys H',Inv (c8 X pins N' scope (s2.heap.objs.size+1) fp s2 H2) [] (none :: none :: v8 caps σ) H' s₆/\tn i s₆.heap/\(∀ b∈fp,H' b=none)/\W i m ys H'
       | .error _=>False) s11:=by
     rintro s11 rfl
     refine c00 (λn1 s'=>∃ j zs H',Inv (c8 X pins N' scope (s2.heap.objs.size+1) fp s2 H2) ([]++u9 fp s6.heap) (some xv :: none :: v8 caps σ) H' s'/\tn1 j s'.heap/\(∀ b∈fp1,H' b=none)/\W1 j n1 zs H') ?_ m1
      ⟨0,ys,H10,I10,st10,λb hb=>(f10 b hb).1,w1⟩ (λ_=>rfl)
     rintro n1 t4 ⟨j,zs,G4,K4,ct4,cr4,v4⟩
     obtain ⟨hacc5,turn5⟩:=turn1 j n1 zs G4 v4
     refine f8 ?_
     rcases turn5 with ⟨stop1,m',hm',w'⟩ | ⟨go1,step1⟩
     ·refine thn (Tn1.done (c8 X pins N' scope (s2.heap.objs.size+1) fp s2 H2) rfl rfl rfl hc j _ t4 _ G4 (λ_ _=>False) K4 (stat1 cr4) ct4 stop1) λr t5 ⟨hr,K5⟩=>?_
      subst hr
      exact ⟨m',hm',i+1,zs,G4,wk K5,(back K5).1,(back K5).2,w'⟩
     ·refine thn (Tn1.item (c8 X pins N' scope (s2.heap.objs.size+1) fp s2 H2) rfl rfl rfl hc j _ t4 _ G4 (λ_ _=>False) K4 (stat1 cr4) ct4 go1) λr t5 ⟨u1,hr,g5⟩=>?_
      subst hr
      dsimp only
      refine f8 (B5 (u:=letOwnedTupleGo (.Name y py) (.ref it1) u1) rfl (thn g5 λ_ t6 ⟨yv,G6,K6,rr6,yy6,ct6,cr6⟩=>?_))
      have K6':=K6.pinned (stat1 cr6) (Tn1.obj _ _ ct6)
      refine thn (M9 (X:=c8 X pins N' scope (s2.heap.objs.size+1) fp s2 H2) (i:=1) hN hy0 (.inl (lookup_relabel_local hyl)) (.inr (lookup_relabel_local hyl)) _ t6 _ G6 yv u1 (λσ2 H4=>σ2=some xv :: some yv :: v8 caps σ/\H4=G6) K6' rr6 ⟨rfl,rfl⟩) λ_ t7 ⟨σ7,G7,K7,e7,e7'⟩=>?_
      subst e7 e7'
      have back1:∀ {σ8:St} {H8:Hp} {s8:Shared},Inv (c8 X pins N' scope (s2.heap.objs.size+1) fp s2 H2) (([]++u9 fp s6.heap)++u9 fp1 t6.heap) σ8 H8 s8->tn1 (j+1) s8.heap/\∀ b∈fp1,H8 b=none:=λ{σ8 H8 s8} I8=>by
       refine ⟨Tn1.keep _ _ _ ct6 λb hb o e=>(I8.pin (b,o) (List.mem_append_right _ (List.mem_append_right _ (m7 hb e)))).1,λb hb=>?_⟩
       obtain ⟨o,e,d⟩:=Tn1.obj _ _ ct6 b hb
       exact (I8.pin (b,o) (List.mem_append_right _ (List.mem_append_right _ (m7 hb e)))).2.1
      have wk1:∀ {H9:Hp} {s9:Shared},Inv (c8 X pins N' scope (s2.heap.objs.size+1) fp s2 H2) (([]++u9 fp s6.heap)++u9 fp1 t6.heap) (some xv :: some yv :: v8 caps σ) H9 s9->Inv (c8 X pins N' scope (s2.heap.objs.size+1) fp s2 H2) ([]++u9 fp s6.heap) (some xv :: none :: v8 caps σ) H9 s9:=λ{H9 s9} I9=>
       I9.unpinned.weak rfl λj v e=>by
        match j with
        | 0=>simpa using e
        | 1=>simp at e
        | j+2=>simpa using e
      refine f8 (thn (ht1 pins _ fp s2 H2 _ t7 _ _ _ K7 (step1 yv _ yy6)) λb2 t8 ⟨G8,K8,p8⟩=>?_)
      cases b2 with
      | false=>
       obtain ⟨m1',hm,w'⟩:=p8
       exact ⟨m1',hm,j+1,zs,G8,wk1 K8,(back1 K8).1,(back1 K8).2,w'⟩
      | true=>
       refine f8 (thn (he pins _ fp s2 H2 _ t8 _ G8 _ K8 p8) λz t9 ⟨zv,G9,K9,rr9,hacc9,hl9,m1',hm,w'⟩=>?_)
       refine f8 (thn (M0 (X:=c8 X pins N' scope (s2.heap.objs.size+1) fp s2 H2) _ t9 _ G9 (.ref s2.heap.objs.size) [zv] (.ref s2.heap.objs.size) [z] (λ_ H'=>H'=upd G9 s2.heap.objs.size (.lst (zs++[zv]))) K9 rfl (.cons rr9 .nil) ⟨_,zs,zv,rfl,rfl,hacc9,hl9,rfl⟩) λ_ t10 ⟨_,G10,K10,_,e10⟩=>?_)
       subst e10
       exact ⟨m1',hm,j+1,zs++[zv],_,wk1 K10,(back1 K10).1,(back1 K10).2,w'⟩
    exact b6j (loop1 _ rfl) (Tn1.self _ 0 _ _ _ st10 (loop1 _ rfl))
 have fin:=codeAny_compStart_list (loop _ rfl) (Tn.self _ 0 _ _ _ hst₁ (loop _ rfl))
 rw [<- hC] at fin
 exact fin
end L2
end
section
set_option maxHeartbeats 1000000
namespace L2
open PySem PySem.Spec PyProof.Rows
mutual
inductive DAt (K:PySem.W.Frag) (H:Hp):V->PyData->Prop where
 | non:DAt K H .non .none
 | bl (b:Bool):DAt K H (.bl b) (.bool b)
 | int (i:Int):DAt K H (.int i) (.int i)
 | str (x:Str):DAt K H (.str x) (.str x)
 | lst {a:Addr} {xs:List V} {ds:List PyData}:SqL K H a xs->DAll K H xs ds->DAt K H (.ref a) (.list ds)
 | tup {a:Addr} {xs:List V} {ds:List PyData}:SqT K H a xs->DAll K H xs ds->DAt K H (.ref a) (.tuple ds)
inductive DAll (K:PySem.W.Frag) (H:Hp):List V->List PyData->Prop where
 | nil:DAll K H [] []
 | cons {x:V} {d:PyData} {xs:List V} {ds:List PyData}:DAt K H x d->DAll K H xs ds->DAll K H (x :: xs) (d :: ds)
end
noncomputable def Keeps (K:PySem.W.Frag) (H H':Hp):Prop:=(∀ a xs,SqL K H a xs->SqL K H' a xs)/\∀ a xs,SqT K H a xs->SqT K H' a xs
mutual
theorem DAt.keeps {K:PySem.W.Frag} {H H':Hp} (k:Keeps K H H'):∀ {v:V} {d:PyData},DAt K H v d->DAt K H' v d
 | _,_,.non=>.non
 | _,_,.bl b=>.bl b
 | _,_,.int i=>.int i
 | _,_,.str x=>.str x
 | _,_,.lst h r=>.lst (k.1 _ _ h) (DAll.keeps k r)
 | _,_,.tup h r=>.tup (k.2 _ _ h) (DAll.keeps k r)
theorem DAll.keeps {K:PySem.W.Frag} {H H':Hp} (k:Keeps K H H'):∀ {xs:List V} {ds:List PyData},DAll K H xs ds->DAll K H' xs ds
 | _,_,.nil=>.nil
 | _,_,.cons h r=>.cons (DAt.keeps k h) (DAll.keeps k r)
end
theorem Keeps.of_same {K:PySem.W.Frag} {H H':Hp} (e:Same H H'):Keeps K H H':=
 ⟨λa xs h=>e.seq h,λa xs h=>by
  rcases h with (h | ⟨o,h⟩) | h
  ·exact .inl (.inl (e _ _ h))
  ·exact .inl (.inr ⟨o,e _ _ h⟩)
  ·exact .inr h⟩
theorem Same.laid {H:Hp} {p:Addr} {o:HO} (h:H p=none):Same H (upd H p o):=λb u e=>by rw [b9 (d8 e h)];exact e
theorem Keeps.laid {K:PySem.W.Frag} {H:Hp} {p:Addr} {o:HO} (h:H p=none):Keeps K H (upd H p o):=Keeps.of_same (Same.laid h)
section
variable {X:Cx} {pins:List (Addr×Obj)} {σ:St} {H:Hp} {s:Shared}
mutual
theorem DAt.reads (I:Inv X pins σ H s):∀ {v:V} {d:PyData},DAt X.K H v d->∀ {u:Value},RelV v u->∃ as,Reads s.heap u d as
 | _,_,.non,u,r=>by cases (show u=Value.none from r);exact ⟨_,.none⟩
 | _,_,.bl b,u,r=>by cases (show u=Value.bool b from r);exact ⟨_,.bool b⟩
 | _,_,.int i,u,r=>by obtain ⟨t,e⟩:=(show ∃ t,u=Value.int i t from r);subst e;exact ⟨_,.int i t⟩
 | _,_,.str x,u,r=>by obtain ⟨t,e⟩:=(show ∃ t,u=Value.str x t from r);subst e;exact ⟨_,.str x t⟩
 | _,_,.lst (a:=a) h q,u,r=>by
  cases (show u=Value.ref a from r)
  obtain ⟨its,rv,⟨o,n,e1,e2,e3,e4⟩,_⟩:=I.list h
  obtain ⟨as,ra⟩:=DAll.reads I q rv
  exact ⟨_,.list e1 e2 e4 ra⟩
 | _,_,.tup (a:=a) h q,u,r=>by
  cases (show u=Value.ref a from r)
  obtain ⟨its,rv,⟨o,e1,e2,n,e4⟩,_⟩:=I.tuple h
  obtain ⟨as,ra⟩:=DAll.reads I q rv
  exact ⟨_,.tuple e1 e2 e4 ra⟩
theorem DAll.reads (I:Inv X pins σ H s):∀ {vs:List V} {ds:List PyData},DAll X.K H vs ds->∀ {us:List Value},Vals vs us->∃ as,ReadsAll s.heap us ds as
 | _,_,.nil,us,r=>by cases r;exact ⟨_,.nil⟩
 | _,_,.cons h q,us,r=>by
  cases r with
  | cons r1 r2=>
   obtain ⟨as,h1⟩:=DAt.reads I h r1
   obtain ⟨bs,h2⟩:=DAll.reads I q r2
   exact ⟨_,.cons h1 h2⟩
end
structure Shows (d:PyData):Prop where
 sh:d.showable=true
 nd:d.hasDict=false
 dp:d.depth<=60
 sz:d.shown.length<=sizeLine
end
end L2
end

section
set_option maxHeartbeats 1000000
namespace L2
open PySem PySem.Spec PyProof.Rows
noncomputable def c94 (K:PySem.W.Frag) (neg:Bool):R2:=λx y H Q=>∃ d e,DAt K H x d/\DAt K H y e/\d.canLay0=true/\e.canLay0=true/\min d.depth e.depth<=60/\Q (.bl (if neg then !PyData.eqv d e else PyData.eqv d e)) H
section
variable {X:Cx}
theorem c2p (hu:X.A.units+64<cLine):OpR X (compareOp .Eq) (c94 X.K false):=by
 intro pins s σ H x y v u Q I rx ry h
 obtain ⟨d,e,hd,he,c1,c2,dp,q⟩:=h
 obtain ⟨as,r1⟩:=hd.reads I rx
 obtain ⟨bs,r2⟩:=he.reads I ry
 exact SeqAt.compareEq_reads r1 r2 c1 c2 (by omega) ⟨.bl (PyData.eqv d e),H,I,rfl,q⟩
theorem c6c (hu:X.A.units+64<cLine):OpR X (compareOp .NotEq) (c94 X.K true):=by
 intro pins s σ H x y v u Q I rx ry h
 obtain ⟨d,e,hd,he,c1,c2,dp,q⟩:=h
 obtain ⟨as,r1⟩:=hd.reads I rx
 obtain ⟨bs,r2⟩:=he.reads I ry
 exact SeqAt.compareNe_reads r1 r2 c1 c2 (by omega) ⟨.bl (!PyData.eqv d e),H,I,rfl,q⟩
end
end L2
end
section
set_option maxHeartbeats 4000000
namespace L2
open PySem PySem.W PySem.Calls PyProof.Rows
noncomputable def X2 (K:Frag) (C:Addr):Bool:=match K.lookup C with
 | some ⟨oc,_,.cls cd,sl⟩=>oc==.type "type" && !cd.hasDel&&cd.hasDict&&(sl.toList[4]?).join==some (.builtin "ValueError.__new__")&&!cd.mro.isEmpty&&cd.mro.contains (.ref C)&&cd.mro.contains (.type "ValueError")&&cd.mro.contains (.type "BaseException") &&
   !cd.mro.contains (.type "AttributeError")&&!cd.mro.contains (.type "NameError")&&specialIn K (.ref C) "__call__" == some (some (.builtin "type.__call__"))&&instIn K (.ref C) (.type "type")==some true
 | _=>false
structure MakesX (M:Model) (h:Heap) (C:Addr):Prop where
 obj:∃ oc od cd sl,h.get? C=some ⟨oc,od,.cls cd,sl⟩/\cd.hasDel=false/\cd.mro.isEmpty=false
 made:Looks M h (Bind.madeBy (.ref C)) (some "ValueError.__new__")
 base:Looks M h (Bind.staticBase (.ref C)) (.ref C)
 self:Looks M h (isSubtype (.ref C) (.ref C)) true
 isV:Looks M h (isSubtype (.ref C) (.type "ValueError")) true
 isB:Looks M h (isSubtype (.ref C) (.type "BaseException")) true
 noA:Looks M h (isSubtype (.ref C) (.type "AttributeError")) false
 noN:Looks M h (isSubtype (.ref C) (.type "NameError")) false
 call:Looks M h (specialOf (.ref C) "__call__") (some (.builtin "type.__call__"))
 typ:Looks M h (isInstance (.ref C) (.type "type")) true
 ty:Looks M h (typeOf (.ref C)) (.type "type")
 isT:Looks M h (isType (.ref C)) true
theorem V1 {K:Frag} {M:Model} {h:Heap} (X:K.In h) {C:Addr} (e:X2 K C=true):MakesX M h C:=by
 unfold X2 at e
 split at e
 case h_2=>cases e
 rename_i oc od cd sl ho
 simp only [Bool.and_eq_true,Bool.not_eq_true',beq_iff_eq] at e
 obtain ⟨⟨⟨⟨⟨⟨⟨⟨⟨⟨⟨e0,e1⟩,_⟩,e3⟩,e4⟩,e5⟩,e6⟩,e7⟩,e8⟩,e9⟩,e10⟩,e11⟩:=e
 have hc:clsIn K C=some cd:=by unfold clsIn;rw [ho]
 have sub:∀ {b:Value} {r:Bool},cd.mro.contains b=r->Looks M h (isSubtype (.ref C) b) r:=λ{b r} q=>looks_mroIn X (by unfold mroIn;rw [hc,Option.bind_some,if_neg (by rw [e4];decide),q])
 have hm:Looks M h (mroOf (.ref C)) cd.mro:=(looks_clsIn X hc).andThen .now
 obtain ⟨c,l,hl⟩:∃ c l,cd.mro=c :: l:=by
  cases q:cd.mro with
  | nil=>rw [q] at e4;cases e4
  | cons c l=>exact ⟨c,l,rfl⟩
 have made:Looks M h (Bind.madeBy (.ref C)) (some "ValueError.__new__"):=λA Q E s k q=>by
  unfold Bind.madeBy
  refine wpAny_bind (hm A _ E s k ?_)
  rw [hl,List.forIn_cons]
  refine wpAny_bind (wpAny_bind (wpAny_bind (wpAny_bind (wpAny_loadPart (k _ _ (X _ _ ho)) (wpAny_pure ?_)))))
  dsimp only
  rw [<- Array.getElem?_toList,e3]
  exact wpAny_pure (wpAny_pure (wpAny_pure q))
 refine ⟨⟨oc,od,cd,sl,X _ _ ho,e1,e4⟩,made,λA Q E s k q=>?_,sub e5,sub e6,sub e7,sub e8,sub e9,looks_specialIn X e10,looks_instIn X e11,?_,(Looks.ld (X _ _ ho)).andThen .now⟩
 ·unfold Bind.staticBase
  refine wpAny_bind (hm A _ E s k ?_)
  rw [hl,List.forIn_cons]
  exact wpAny_bind (wpAny_bind (wpAny_bind (made A _ E s k (wpAny_pure (wpAny_pure (wpAny_pure q))))))
 ·subst e0;exact (Looks.ld (X _ _ ho)).andThen .now
noncomputable abbrev C6 (C t:Addr):Obj:={ cls:=.ref C,data:=.fields #[.ref t,.none,.none,.none,.bool false,.none] }
noncomputable abbrev D5 (vs:List Value):Obj:={ cls:=.type "tuple",data:=.seq vs.toArray }
section
variable {prog:Program} {w:World} {A:Around} {K:Frag} {C:Addr} {R:Result->Shared->Prop} {h:Heap} {g:Array GenState} {d:Drawn} {t:Nat} {os:OsState}
theorem d05 {rest:List Value} (Y:MakesX (model prog w) h C) (hrest:rest.length<=sizeLine)
  (hq:R (.ok (.ret (.ref (h.objs.size+1)))) ⟨(h.push (D5 rest)).push (C6 C h.objs.size),g,d,t,os⟩) :
  codeAny (model prog w) A (.call (.builtin "ValueError.__new__") ⟨.ref C :: rest,[]⟩) R ⟨h,g,d,t,os⟩:=by
 obtain ⟨⟨oc,od,cd,sl,hC,e1,e4⟩,made,base,self,isV,isB,noA,noN,call,typ,_,_⟩:=Y
 have F:=PySem.F.excBase_ValueError
 refine codeAny_call_builtin_code (Code.quiet_builtin _ F.quiet) ?_
 simp only [checkBuiltinCall,F.newKind,F.newSplit,F.newRow]
 have here:Looks (model prog w) h (Bind.madeHere "ValueError.__new__" (.ref C)) ():=base.andThen (made.andThen (Looks.of_pure (by simp only [Option.map_some,bne_self_eq_false,Bool.false_eq_true,if_false])))
 repeat (first | simp only [bne_self_eq_false,Bool.false_eq_true,if_false] | lk)
 have here2:Looks (model prog w) h (Bind.madeHere "BaseException.__new__" (.ref C)) ():=base.andThen (made.andThen (Looks.of_pure (by simp only [Option.map_some,F.canon,bne_self_eq_false,Bool.false_eq_true,if_false])))
 have ends:=F.ends
 refine codeAny_builtinAt F.entry (PySem.wpAt_bind ?_)
 show PySem.wpAt _ _ _ (stack >>= _) _ _ _
 refine PySem.wpAt_bind (PySem.wpAt_stack λp below=>PySem.wpAt_of_wpAny ?_)
 wp_walk
 refine PySem.wpAt_of_wpAny ?_
 rw [F.owner]
 repeat lk
 rw [if_neg (by rw [List.size_toArray];omega)]
 show wpAny _ _ (newObjAsIs _ _) _ _ _
 have hC2:(h.push (D5 rest)).get? C=some ⟨oc,od,.cls cd,sl⟩:=Heap.get?_push_of_some _ hC
 have hC3:((h.push (D5 rest)).push (C6 C h.objs.size)).get? C=some ⟨oc,od,.cls cd,sl⟩:=Heap.get?_push_of_some _ hC2
 unfold newObjAsIs
 refine wpAny_bind (wpAny_alloc (wpAny_pure (wpAny_bind ?_)))
 show wpAny _ _ (newObjAsIs _ _) _ _ _
 unfold newObjAsIs classHasDel
 refine wpAny_bind (wpAny_alloc (wpAny_bind (wpAny_bind (wpAny_load hC3 (wpAny_pure ?_)))))
 rw [e1]
 refine wpAny_pure (wpAny_pure ?_)
 show R _ _
 rw [Heap.size_push]
 exact hq
theorem c80 {rest:List Value} {f:Addr} (Y:MakesX (model prog w) h C) (hi:Looks (model prog w) h (typeLookup (.ref C) "__init__") (some (.ref f)))
  (hb:∀ self,Looks (model prog w) h (bindSpecial (.ref f) self) (.ref f,[self])) (hrest:rest.length<=sizeLine)
  (hq:codeAny (model prog w) (A.under (.builtin "type.__call__" ⟨.ref C :: rest,[]⟩)) (.call (.ref f) ⟨.ref (h.objs.size+1) :: rest,[]⟩) (InitBack (h.objs.size+1) R) ⟨(h.push (D5 rest)).push (C6 C h.objs.size),g,d,t,os⟩) :
  codeAny (model prog w) A (.call (.ref C) ⟨rest,[]⟩) R ⟨h,g,d,t,os⟩:=by
 have Y':=Y
 obtain ⟨⟨oc,od,cd,sl,hC,e1,e4⟩,made,base,self,isV,isB,noA,noN,call,typ,_,_⟩:=Y
 refine codeAny_of_tree ?_
 show wpAny _ _ (callAny (.ref C) _) _ _ _
 refine nd_load hC (show wpAny _ _ (callAny.viaDunder (.ref C) _) _ _ _ from ?_)
 unfold callAny.viaDunder
 refine wpAny_bind (call.at ?_)
 dsimp only
 rw [tc_bind]
 refine wpAny_bind (wpAny_pure (wpAny_bind (wpAny_pure (wpAny_pure (a:=Fin.again (.call (.builtin "type.__call__") ⟨.ref C :: rest,[]⟩)) (And.intro rfl ?_)))))
 refine codeAny_call_builtin_at (Code.quiet_builtin _ (by decide +kernel)) entry_typeCall (check_slot tc_kind tc_split typ (tc_args _ _ _) ?_)
 have hm:Looks (model prog w) h (mroOf (.ref C)) cd.mro:=((Looks.ld (part:=none) hC).andThen .now).andThen .now
 unfold Builtin.«type.__call__»
 repeat (first | simp only [e4,Bool.false_eq_true,if_false] | with_reducible refine wpAny_call ?_ | lk)
 refine d05 Y' hrest ?_
 have k:∀ b o,h.get? b=some o->((h.push (D5 rest)).push (C6 C h.objs.size)).get? b=some o:=λb o e=>Heap.get?_push_of_some _ (Heap.get?_push_of_some _ e)
 have hx:((h.push (D5 rest)).push (C6 C h.objs.size)).get? (h.objs.size+1)=some (C6 C h.objs.size):=by heap_get
 have t1:Looks (model prog w) ((h.push (D5 rest)).push (C6 C h.objs.size)) (typeOf (.ref (h.objs.size+1))) (.ref C):=(Looks.ld hx).andThen .now
 have s1:=self.keeps k
 have i1:=hi.keeps k
 have b1:=(hb (.ref (h.objs.size+1))).keeps k
 unfold isInstance callSpecial? specialOf
 repeat (first | with_reducible refine wpAny_call ?_ | lk)
 refine codeAny_mono hq λr s' z=>?_
 rcases r with e | (v | _ | _ | _) <;> first | exact z | exact z.elim | skip
 obtain ⟨rfl,z⟩:=z
 exact wpAny_pure (wpAny_pure z)
end
end L2
end
section
set_option maxHeartbeats 400000
namespace L2
open PySem PySem.W PySem.Calls PyProof.Rows Builtin Builtin.ObjectAttr
theorem b3s:builtinKind "BaseException.__getattribute__" = some .slot:=by decide +kernel
theorem a90:splitId "BaseException.__getattribute__" = some ("BaseException","__getattribute__"):=by decide +kernel
theorem a99:plainId "BaseException.__getattribute__" = true:=by decide +kernel
section
variable {prog:Program} {w:World} {A:Around} {R:Result->Shared->Prop} {s:Shared} {x:Addr} {name:Str} {t:Tok}
theorem b1v (hi:Looks (model prog w) s.heap (isInstance (.ref x) (.type "BaseException")) true)
  (h:wpAny (model prog w) A.in1 (Builtin.«object.__getattribute__» ⟨[.ref x,.str name t],[]⟩) (λfin s'=>match fin with | .done f=>R (.ok f) s' | .again c'=>c'.quiet=true/\codeAny (model prog w) A c' R s') (λe s'=>R (.error e) s') s) :
  codeAny (model prog w) A (.call (.builtin "BaseException.__getattribute__") ⟨[.ref x,.str name t],[]⟩) R s:=
 codeAny_call_builtin a99 PySem.F.entry_bexc_ga (@check_slot (model prog w) _ _ _ "BaseException.__getattribute__" "BaseException" "__getattribute__" (.ref x) [.str name t] [] _ b3s a90 hi (PySem.F.args_bexc_ga (.ref x) (.str name t)) h)
end
section
variable {prog:Program} {w:World} {A:Around} {E:Value->Shared->Prop} {s:Shared} {K:Frag} {x C:Addr} {ox:Obj} {od:Option Obj} {name:Str} {expr:Bool} {Q:Value->Shared->Prop}
structure XCls (K:Frag) (C:Addr):Prop where
 ga:findIn K (.ref C) "__getattribute__" = some (some (.builtin "BaseException.__getattribute__"))
 gg:findIn K (.ref C) "__getattr__" = some none
 be:mroIn K C (.type "BaseException")=some true
 ob:mroIn K C (.type "object")=some true
 hd:hasDictIn K C=true
 cl:findIn K (.ref C) "__class__" = some (some (.builtin "object.__class__"))
 cg:specialIn K (.builtin "object.__class__") "__get__" = some (some (.builtin "getset_descriptor.__get__"))
 ct:takesIn K (.builtin "object.__class__")=some true
theorem c2m {fill:Bool} {t:Tok} (X:K.In s.heap) (I:InstAt s.heap x ox C od) (hx:XCls K C)
  (h:wpAny (model prog w) A.in1 (Builtin.«object.__getattribute__» ⟨[.ref x,.str name t],[]⟩) (λfin s'=>match fin with | .done (.ret v)=>wpAny (model prog w) A (handedOut v) Q E s' | _=>False) (λ_ _=>False) s) :
  wpAny (model prog w) A (getAttrBy (.ref x) (.str name t) fill expr) Q E s:=by
 obtain ⟨hp,g,d,tk,os⟩:=s
 have L0:=I.type (M:=model prog w)
 have L1:=looks_findIn (M:=model prog w) X hx.ga
 have L2:=looks_findIn (M:=model prog w) X hx.gg
 have L4:Looks (model prog w) hp (isInstance (.ref x) (.type "BaseException")) true:=L0.andThen (looks_mroIn X hx.be)
 have f3:=(PySem.F.attrBase_ValueError).ga.bind (.ref x)
 have hx0:(expr&&onTheHeap (Value.builtin "BaseException.__getattribute__"))=false:=by cases expr <;> rfl
 have hx2:(Value.builtin "BaseException.__getattribute__" == Value.builtin "object.__getattribute__")=false:=by decide +kernel
 unfold getAttrBy
 refine wpAny_holding (wpAny_bind (L0.at (wpAny_bind (L1.at ?_))))
 repeat (first | simp only [hx2,Bool.and_false,Bool.false_eq_true,if_false] | lk)
 refine wpAny_attempt (wpAny_holding ?_)
 unfold callGetattribute
 rw [hx0]
 simp only [Bool.false_eq_true,if_false]
 unfold boundAndCalled
 refine wpAny_bind (wpAny_of_eq f3 ?_)
 refine wpAny_call (show codeAny _ _ (.call (.builtin "BaseException.__getattribute__") ⟨[.ref x,.str name t],[]⟩) _ _ from b1v L4 ?_)
 refine wpAny_mono h (λfin s' z=>?_) λ_ _ z=>z.elim
 rcases fin with (v | _ | _ | _) | _ <;> first | exact z | exact z.elim
theorem a5l {od:Option Obj} (hx:XCls K C):findObj K C od "__class__" = some (.bind (.builtin "getset_descriptor.__get__") (.builtin "object.__class__")):=by
 obtain ⟨cd,hc,_⟩:=any_some hx.hd
 unfold findObj
 rw [hc,Option.bind_some,hx.cl,Option.bind_some]
 dsimp only
 rw [hx.cg,Option.bind_some]
 dsimp only
 rw [hx.ct]
 rfl
theorem c5r {R:Option Value->Shared->Prop} (X:K.In s.heap) (I:InstAt s.heap x ox C od) (hx:XCls K C) (h:R (some (.ref C)) { s with toks:=s.toks+1 }):wpAny (model prog w) A (getAttr? (.ref x) "__class__") R E s:=by
 have hf:=a5l (od:=od) hx
 obtain ⟨hp,g,d,t,os⟩:=s
 have L0:=I.type (M:=model prog w)
 have L3:=looks_find (M:=model prog w) X I hf
 unfold getAttr? getAttrBy?
 refine wpAny_bind (wpAny_mkText (wpAny_bind (wpAny_attempt (c2m (s:=⟨hp,g,d,t+1,os⟩) X I hx ?_))))
 refine wpAny_bind (wpAny_pure (wpAny_bind (wpAny_pure (wpAny_bind (L0.at (wpAny_bind (L3.at ?_)))))))
 show wpAny _ _ (holding [.builtin "object.__class__"] (call (.builtin "getset_descriptor.__get__") [.builtin "object.__class__",.ref x,.ref C]) >>= ret) _ _ _
 refine wpAny_bind (wpAny_holding (wpAny_call (class_get (s:=⟨hp,g,d,t+1,os⟩) (ox:=ox) (od:=od) X I hx.ob ?_)))
 refine wpAny_pure ?_
 show wpAny _ _ (handedOut (.ref C)) _ _ _
 exact handed_on rfl (wpAny_pure h)
theorem d2d (hx:XCls K C):KitX K (.ref x) (.ref C) (λh=>∃ ox od,InstAt h x ox C od) where
 ty:=λ_ _ _ ⟨_,_,I⟩=>I.type
 it:=λ_ _ X _=>by
  obtain ⟨cd,hc,_⟩:=any_some hx.hd
  unfold clsIn at hc
  split at hc
  ·rename_i oc odd cd' sl ho
   exact λA' Q' E' s' k q=>by
    unfold isType loadHead
    exact wpAny_bind (wpAny_loadPart (k _ _ (X _ _ ho)) (wpAny_pure q))
  ·cases hc
 ne:=λh tp dd its n sl X htp=>by
  obtain ⟨cd,hc,_⟩:=any_some hx.hd
  refine Bool.eq_false_iff.mpr λq=>?_
  obtain rfl:C=tp:=Value.ref.inj (beq_iff_eq.mp q)
  unfold clsIn at hc
  split at hc
  ·rename_i oc odd cd' sl ho
   have z:=(X _ _ ho).symm.trans htp
   cases z
  ·cases hc
 ca:=λX ⟨_,_,I⟩ k=>c5r X I hx k
end
set_option maxHeartbeats 1000000
noncomputable def B8:List Value->Bool
 | .ref _ :: r=>B8 r
 | l=>l==[.type "ValueError",.type "Exception",.type "BaseException",.type "object"]
theorem I0 (self:Value):∀ {l:List Value},B8 l=true->refuseLoop self "__setattr__" l=pure ()
 | .ref c :: r,e=>by rw [refuseLoop_ref];exact I0 self e
 | [],e=>by cases e
 | .none :: r,e=>by cases e
 | .type n :: r,e=>by rw [show (Value.type n :: r)=_ from beq_iff_eq.mp e];exact PySem.F.store_ValueError.passes self
 | .bool _ :: _,e=>by cases e
 | .int _ _ :: _,e=>by cases e
 | .str _ _ :: _,e=>by cases e
 | .bytes _ _ :: _,e=>by cases e
 | .float _ _ :: _,e=>by cases e
 | .builtin _ :: _,e=>by cases e
 | .ellipsis :: _,e=>by cases e
 | .notImplemented :: _,e=>by cases e
section
variable {prog:Program} {w:World} {A:Around} {E:Value->Shared->Prop} {s:Shared} {K:Frag} {x C:Addr} {ox:Obj} {od:Option Obj} {name:Str} {R:Result->Shared->Prop} {v:Value}
theorem c86 {tk:Tok} (X:K.In s.heap) (I:InstAt s.heap x ox C od) (hx:XCls K C) (hv:(clsIn K C).any (λcd=>B8 cd.mro)=true) (hn:findIn K (.ref C) name=some none)
  (h:∀ b,wpAny (model prog w) A.in1 (storeInOwnDict (.ref x) (.ref C) (.str name tk) name v b) (λfin s'=>match fin with | .done f=>R (.ok f) s' | .again c'=>c'.quiet=true/\codeAny (model prog w) A c' R s') (λe s'=>R (.error e) s') s) :
  codeAny (model prog w) A (.call (.builtin "object.__setattr__") ⟨[.ref x,.str name tk,v],[]⟩) R s:=by
 have SF:=PySem.F.store_object
 obtain ⟨cd,hc,ho⟩:=any_some hv
 have sub:Looks (model prog w) s.heap (isInstance (.ref x) (.type "object")) true:=I.type.andThen (looks_mroIn X hx.ob)
 have hm:Looks (model prog w) s.heap (mroOf (.ref C)) cd.mro:=(looks_clsIn X hc).andThen .now
 refine codeAny_call_builtin SF.slot.plain SF.entry (@check_slot (model prog w) _ _ s "object.__setattr__" "object" "__setattr__" (.ref x) [.str name tk,v] [] _ SF.kind SF.split sub (SF.args (.ref x) (.str name tk) v) ?_)
 rw [osa_eq,refuse_eq]
 refine wpAny_bind (wpAny_bind (I.type.here (wpAny_bind (hm.here ?_))))
 rw [I0 _ ho]
 exact wpAny_pure (wpAny_bind (I.type.here (wpAny_bind ((looks_findIn X hn).here (wpAny_bind (wpAny_pure (h _)))))))
noncomputable def tbV:Option Addr->Value
 | none=>.none
 | some T=>.ref T
noncomputable def IsX (fr:Option Addr) (h:Heap) (x C:Addr) (d:Option Addr):Prop:=∃ vs,h.get? x=some { cls:=.ref C,dict:=d,data:=.fields vs }/\vs.size=6/\vs[1]?=some (tbV fr)
theorem IsX.inst0 {fr:Option Addr} {h:Heap} (i:IsX fr h x C none):∃ ox,InstAt h x ox C none:=by
 obtain ⟨vs,e,_⟩:=i
 exact ⟨_,e,rfl,rfl,True.intro⟩
theorem IsX.inst1 {fr:Option Addr} {h:Heap} {d:Addr} (i:IsX fr h x C (some d)) {o:Obj} (hd:h.get? d=some o):∃ ox,InstAt h x ox C (some o):=by
 obtain ⟨vs,e,_⟩:=i
 exact ⟨_,e,rfl,rfl,hd⟩
theorem c7b {fr:Option Addr} {Q:Unit->Shared->Prop} (X:K.In s.heap) (i:IsX fr s.heap x C none) (hx:XCls K C) (hv:(clsIn K C).any (λcd=>B8 cd.mro)=true) (hs:findIn K (.ref C) "__setattr__" = some (some (.builtin "object.__setattr__"))) (hn:findIn K (.ref C) name=some none)
  (h:∀ h' t',IsX fr h' x C (some s.heap.objs.size)->h'.Ns1 s.heap.objs.size (λy=>if y=name then some v else none)->(∀ b o,b≠x->s.heap.get? b=some o->h'.get? b=some o)->Q () { s with heap:=h',toks:=t' }):wpAny (model prog w) A (setAttr (.ref x) name v) Q E s:=by
 obtain ⟨ox,I⟩:=i.inst0
 obtain ⟨vs,hxo,hsz⟩:=i
 obtain ⟨cd,hc,hd⟩:=any_some hx.hd
 refine set_plain X I hs (c86 (s:={ s with toks:=s.toks+1 }) X I hx hv hn λb=>?_)
 refine wpAny_bind (wpAny_pure (wpAny_bind (wpAny_bind (wpAny_loadPart hxo (wpAny_bind (Looks.here (s:={ s with toks:=s.toks+1 }) (looks_clsIn X hc) ?_))))))
 rw [hd]
 have hxs:x≠s.heap.objs.size:=Nat.ne_of_lt (Heap.lt_size hxo)
 have hx1:(s.heap.push { cls:=.type "dict",data:=.dict #[] }).get? x=some { cls:=.ref C,data:=.fields vs }:=Heap.get?_push_of_some _ hxo
 refine wpAny_bind (wpAny_alloc (wpAny_bind (wpAny_update hx1 (wpAny_pure (a:=some s.heap.objs.size) ?_))))
 have e0:((s.heap.push { cls:=.type "dict",data:=.dict #[] }).update x λo=>{ cls:=o.cls,dict:=some s.heap.objs.size,data:=o.data,slots:=o.slots }).get? s.heap.objs.size=some { cls:=.type "dict",data:=.dict #[] }:=
  (Heap.get?_update_ne _ _ _ _ hxs.symm).trans (Heap.get?_push_at rfl rfl)
 have e1:((s.heap.push { cls:=.type "dict",data:=.dict #[] }).update x λo=>{ cls:=o.cls,dict:=some s.heap.objs.size,data:=o.data,slots:=o.slots }).get? x=some { cls:=.ref C,dict:=some s.heap.objs.size,data:=.fields vs }:=
  Heap.get?_update_self _ hx1 rfl
 have e2:∀ b o,b≠x->s.heap.get? b=some o->((s.heap.push { cls:=.type "dict",data:=.dict #[] }).update x λo=>{ cls:=o.cls,dict:=some s.heap.objs.size,data:=o.data,slots:=o.slots }).get? b=some o:=
  λb o hb e=>(Heap.get?_update_ne _ _ _ _ hb).trans (Heap.get?_push_of_some _ e)
 have n0:((s.heap.push { cls:=.type "dict",data:=.dict #[] }).update x λo=>{ cls:=o.cls,dict:=some s.heap.objs.size,data:=o.data,slots:=o.slots }).Ns s.heap.objs.size (λ_=>none):=
  ⟨_,#[],_,e0,rfl,λe he=>absurd he (by simp),λ_=>rfl⟩
 generalize ((s.heap.push { cls:=.type "dict",data:=.dict #[] }).update x λo=>{ cls:=o.cls,dict:=some s.heap.objs.size,data:=o.data,slots:=o.slots })=h1 at e0 e1 e2 n0 ⊢
 show wpAny _ _ (storeInDict s.heap.objs.size (.str name s.toks) name v) _ _ _
 unfold storeInDict newKeyGuard
 refine wpAny_bind (wpAny_pure (wpAny_bind (wpAny_nsSet1 (Heap.Ns1.of_empty n0) λh' hn' hs'=>?_)))
 obtain ⟨oD,esD,epD,hoD,hdD,hcD⟩:=hn'.count (Within.cons name v Within.nil)
 refine wpAny_bind (wpAny_lookBehind hoD (by rw [hdD];exact pastItsLine_dict (Nat.le_trans hcD (by rw [List.length_cons,List.length_nil,sizeLine_eq];omega))) (wpAny_pure ?_))
 exact h h' _ ⟨vs,(hs'.2 x hxs).trans e1,hsz⟩ hn' λb o hb e=>(hs'.2 b (Nat.ne_of_lt (Heap.lt_size e))).trans (e2 b o hb e)
theorem c9z {fr:Option Addr} {Q:Unit->Shared->Prop} {d:Addr} {mA:Str->Option Value} {ns:List Str} (X:K.In s.heap) (i:IsX fr s.heap x C (some d)) (hd:s.heap.Ns1 d mA) (hdx:d≠x) (hx:XCls K C) (hv:(clsIn K C).any (λcd=>B8 cd.mro)=true) (hs:findIn K (.ref C) "__setattr__" = some (some (.builtin "object.__setattr__"))) (hn:findIn K (.ref C) name=some none)
  (hw:Within mA ns) (hz:ns.length<=1000)
  (h:∀ h' t',h'.Ns1 d (λy=>if y=name then some v else mA y)->Heap.SameBut d s.heap h'->Q () { s with heap:=h',toks:=t' }):wpAny (model prog w) A (setAttr (.ref x) name v) Q E s:=by
 obtain ⟨od,hod,hl⟩:=a2m hd
 obtain ⟨ox,I⟩:=i.inst1 hod
 obtain ⟨vs,hxo,hsz⟩:=i
 obtain ⟨cd,hc,hd'⟩:=any_some hx.hd
 refine set_plain X I hs (c86 (s:={ s with toks:=s.toks+1 }) X I hx hv hn λb=>?_)
 refine wpAny_bind (wpAny_pure (wpAny_bind (wpAny_bind (wpAny_loadPart hxo (wpAny_bind (Looks.here (s:={ s with toks:=s.toks+1 }) (looks_clsIn X hc) ?_))))))
 rw [hd']
 refine wpAny_pure (a:=some d) ?_
 show wpAny _ _ (storeInDict d (.str name s.toks) name v) _ _ _
 unfold storeInDict newKeyGuard
 refine wpAny_bind (wpAny_pure (wpAny_bind (wpAny_nsSet1 (s:={ s with toks:=s.toks+1 }) hd λh' hn' hs'=>?_)))
 obtain ⟨oD,esD,epD,hoD,hdD,hcD⟩:=hn'.count (Within.cons name v hw)
 refine wpAny_bind (wpAny_lookBehind hoD (by rw [hdD];exact pastItsLine_dict (Nat.le_trans hcD (by rw [List.length_cons,sizeLine_eq];omega))) (wpAny_pure ?_))
 exact h h' _ hn' hs'
end
section
variable {prog:Program} {w:World} {A:Around} {E:Value->Shared->Prop} {s:Shared} {K:Frag} {x C:Addr} {d:Option Addr} {R:Result->Shared->Prop} {y:Value}
theorem c9s {fr:Option Addr} (X:K.In s.heap) (i:IsX fr s.heap x C d) (ex:X2 K C=true)
  (h:∀ h',(∀ b o,b≠x->s.heap.get? b=some o->h'.get? b=some o)->IsX fr h' x C d->R (.ok (.ret .none)) { s with heap:=h' }) :
  codeAny (model prog w) A (.call (.builtin "ValueError.__init__") ⟨[.ref x,y],[]⟩) R s:=by
 have F:=PySem.F.excBase_ValueError
 obtain ⟨vs,hxo,hsz,hfr⟩:=i
 have L0:Looks (model prog w) s.heap (typeOf (.ref x)) (.ref C):=(Looks.ld hxo).andThen .now
 have Y:=V1 (M:=model prog w) X ex
 have sub:Looks (model prog w) s.heap (isInstance (.ref x) (.type "ValueError")) true:=L0.andThen Y.isV
 obtain ⟨oc,odc,cd,sl,hC,_,_⟩:=Y.obj
 have star:=F.noStar
 refine codeAny_call_builtin F.init.plain F.initEntry ?_
 simp only [checkBuiltinCall,F.initKind,F.initSplit,F.initRow]
 refine wpAny_bind (sub.here ?_)
 simp only [Bool.not_true,Bool.false_eq_true,if_false]
 have e1:(s.heap.push { cls:=.type "tuple",data:=.seq #[y] }).get? x=some { cls:=.ref C,dict:=d,data:=.fields vs }:=Heap.get?_push_of_some _ hxo
 obtain ⟨v0,h0⟩:∃ v0,vs[0]?=some v0:=⟨vs[0]'(by omega),Array.getElem?_eq_getElem _⟩
 have fin:R (.ok (.ret .none)) { s with heap:=(s.heap.push { cls:=.type "tuple",data:=.seq #[y] }).update x (Obj.mapFields (·.setIfInBounds 0 (.ref s.heap.objs.size))) }:=by
  refine h _ (λb o hb e=>(Heap.get?_update_ne _ _ _ _ hb).trans (Heap.get?_push_of_some _ e)) ⟨vs.setIfInBounds 0 (.ref s.heap.objs.size),Heap.get?_update_self _ e1 rfl,?_⟩
  rw [Array.size_setIfInBounds]
  exact ⟨hsz,by rw [Array.getElem?_setIfInBounds_ne (by decide)];exact hfr⟩
 unfold Bind.checkArgs
 repeat lk
 rw [h0]
 refine wpAny_pure (wpAny_bind (wpAny_setField e1 rfl (by omega) ?_))
 cases v0 <;> first | exact wpAny_pure (wpAny_pure fin) | exact wpAny_letGo (wpAny_pure fin)
end
end L2
end
section
set_option maxHeartbeats 1000000
namespace L2
open PySem PySem.Spec PyProof.Rows
noncomputable def R9 (fr:Option Addr) (x C:Addr) (d:Option Addr):HO:=.ext λh=>IsX fr h x C d
noncomputable abbrev N6 (x C:Addr) (d:Option Addr):HO:=R9 none x C d
noncomputable def J9 (d:Addr) (fs:List (Str×V)):HO:=.ext λh=>∃ mA,h.Ns1 d mA/\(∀ f,RelO (fs.lookup f) (mA f))/\PySem.Within mA (fs.map (·.1))/\fs.length<=900
theorem okX {fr:Option Addr} {P:Program} {w:World} {H:Hp} {h:Heap} {x C:Addr} {d:Option Addr} (i:IsX fr h x C d):ObjOk P w H h x (R9 fr x C d):=by
 obtain ⟨vs,e,z⟩:=id i
 refine ⟨i,⟨_,e⟩,λh1 h2 ⟨vs1,e1,z1⟩ k=>⟨vs1,k _ e1,z1⟩⟩
theorem okD {P:Program} {w:World} {H:Hp} {h:Heap} {d:Addr} {fs:List (Str×V)} {mA:Str->Option Value} (n:h.Ns1 d mA) (r:∀ f,RelO (fs.lookup f) (mA f)) (wi:PySem.Within mA (fs.map (·.1))) (l:fs.length<=900):ObjOk P w H h d (J9 d fs):=by
 obtain ⟨o,es,ep,e,q⟩:=id n
 exact ⟨⟨mA,n,r,wi,l⟩,⟨o,e⟩,λh1 h2 ⟨m1,n1,r1,w1,l1⟩ k=>⟨m1,n1.at k,r1,w1,l1⟩⟩
structure XC (K:PySem.W.Frag) (C:Addr):Prop where
 xc:XCls K C
 ex:X2 K C=true
 vm:(PySem.W.clsIn K C).any (λcd=>B8 cd.mro)=true
 sa:PySem.W.findIn K (.ref C) "__setattr__" = some (some (.builtin "object.__setattr__"))
 kp:PySem.W.keepIn K (.ref C)=true
section
variable {X:Cx} {pins:List (Addr×Obj)} {σ:St} {H:Hp} {s:Shared} {x C:Addr}
theorem Inv.isX {fr:Option Addr} {d:Option Addr} (I:Inv X pins σ H s) (e:H x=some (R9 fr x C d)):IsX fr s.heap x C d:=(I.hok x _ e).1
theorem Inv.isD {d:Addr} {fs:List (Str×V)} (I:Inv X pins σ H s) (e:H d=some (J9 d fs)):∃ mA,s.heap.Ns1 d mA/\(∀ f,RelO (fs.lookup f) (mA f))/\PySem.Within mA (fs.map (·.1))/\fs.length<=900:=(I.hok d _ e).1
theorem Inv.madeX {us:List Value} (I:Inv X pins σ H s):Inv X pins σ (upd H (s.heap.objs.size+1) (N6 (s.heap.objs.size+1) C none)) { s with heap:=(s.heap.push (D5 us)).push (C6 C s.heap.objs.size) }:=by
 have e2:((s.heap.push (D5 us)).push (C6 C s.heap.objs.size)).get? (s.heap.objs.size+1)=some (C6 C s.heap.objs.size):=by
  have:=Heap.get?_push_size (s.heap.push (D5 us)) (o:=C6 C s.heap.objs.size) rfl
  rwa [Heap.size_push] at this
 exact I.laid (a:=s.heap.objs.size+1) (t':=s.toks) (λb u q=>Heap.get?_push_of_some _ (Heap.get?_push_of_some _ q)) (Nat.le_succ _) (okX ⟨_,e2,rfl,rfl⟩)
end
noncomputable def c3m (C:Addr) (sp:Sp) (E:XK) (t:TA):TE:=λσ H Q=>t σ H λvs H1=>vs.length<=1000/\∀ x,H1 x=none->sp (.ref x :: vs) (upd H1 x (N6 x C none)) (λv H2=>v=.non/\Q (.ref x) H2) E
section
variable {X:Cx} {CX:CXT} {k:Nat} {f C:Addr} {fd:FuncData} {ps:List Str} {sp:Sp} {E:XK} {nm:Str} {p pos:Pos} {e:Expr} {es:List Expr} {t:TA}
theorem a0k (M:XC X.K C) (hi:PySem.W.findIn X.K (.ref C) "__init__" = some (some (.ref f))) (hf:PySem.W.isFn X.K (.ref f)=true) (F:FnOk X.prog X.w X.K X.mg X.base CX k f fd ps sp) (hr:Room CX.q (k+1) X.A) (hg:Gl X nm) (hm:X.mg nm=some (.ref C)) (hb:Binds X.K fd ps []) (hx:D4 CX X E)
  (ha:PA X (e :: es) t) (hdb:(nm==("__debug__" : Str))=false:=by decide) (he:starEach (e :: es) X.env=(false,eval e X.env) :: starEach es X.env:=by rfl) (hpl:(backTo pos (starEach es X.env)).any (·.1)=false:=by rfl) :
  PE X (.Call (.Name nm p) (e :: es) [] pos) (c3m C sp E t):=by
 intro pins s σ H Q I h
 refine wpAny_Call_Name_kw (P7 I hg hm ?_ hdb)
 refine PySem.W.callWith_K (h₀:=X.base) I.ok.mod.kin M.kp (thn (ha pos pins s σ H _ I h) λus s1 ⟨vs,H1,I1,r,hl,q⟩=>⟨I1.kIn,?_⟩) he hpl
 have hq:=q (s1.heap.objs.size+1) (I1.hok.fresh (Nat.le_succ _))
 have I2:=Inv.madeX (C:=C) (us:=us) I1
 have r2:Vals (V.ref (s1.heap.objs.size+1) :: vs) (Value.ref (s1.heap.objs.size+1) :: us):=.cons rfl r
 have hlen:(Value.ref (s1.heap.objs.size+1) :: us++[]).length=ps.length:=by
  have e:=r2.length
  rw [F.len _ _ _ _ hq] at e
  simpa using e.symm
 have hus:us.length<=sizeLine:=by
  have:=r.length
  have z:(1000:Nat)<=sizeLine:=by decide
  omega
 have hb2:=hb _ (Value.ref (s1.heap.objs.size+1) :: us) I2.kIn hlen
 rw [List.append_nil] at hb2
 refine wpAny_call (c80 (f:=f) (V1 I1.kIn M.ex) (PySem.W.looks_findIn I1.kIn hi) (λself=>PySem.W.bind_fn I1.kIn self (beq_iff_eq.mp hf)) hus
  (codeAny_mono (F.run _ X.stack _ _ ⟨Value.ref (s1.heap.objs.size+1) :: us,[]⟩ _ _ _ E (hr.make C us []) (I2.env0.make C us []) hb2 r2 hq) λr s' hq'=>?_))
 cases r with
 | error e=>exact hx pins σ _ _ e s' I2 hq'
 | ok fl=>
  cases fl with
  | ret u=>
   obtain ⟨v,H',I3,rv,ev,q3⟩:=I2.after hq'
   subst ev
   exact ⟨rv,⟨V.ref (s1.heap.objs.size+1),H',I3,rfl,q3⟩⟩
  | next=>exact False.elim hq'
  | brk=>exact False.elim hq'
  | cont=>exact False.elim hq'
end
theorem b4c {H:Hp} {x:Addr} {o:HO} (h:H x=some o):upd H x o=H:=funext λb=>by
 by_cases e:b=x
 ·subst e;rw [d4,h]
 ·rw [b9 e]
noncomputable def d0p (K:PySem.W.Frag) (ta tv:TE) (f:Str):TS:=λD σ H=>tv σ H λy H1=>ta σ H1 λxv H2=>∃ x C,xv=.ref x/\XC K C/\A9 K C f /\
 ((H2 x=some (N6 x C none)/\∀ d,H2 d=none->D.nx σ (upd (upd H2 d (J9 d [(f,y)])) x (N6 x C (some d)))) \/
 ∃ d fs,d≠x/\H2 x=some (N6 x C (some d))/\H2 d=some (J9 d fs)/\fs.length<900/\D.nx σ (upd H2 d (J9 d (J2 f y fs))))
section
variable {X:Cx} {o e value:Expr} {f:Str} {pos pos':Pos} {ta tv:TE}
theorem a3w (ha:PE X o ta) (hv:PE X value tv) (hs:swapsWith value (some (.Attribute o f pos')) pos.line X.env=pure false):PS X (.Assign [.Attribute o f pos'] value pos) (d0p X.K ta tv f):=by
 intro pins s σ H D I h
 refine plainObj_wpAny_Assign_Attribute (thn (hv pins s σ H _ I h) λu s1 ⟨y,H1,I1,ry,q⟩=>thn (ha pins s1 σ H1 _ I1 q) λov s2 ⟨xv,H2,I2,rx,x,C,ex,M,n,q2⟩=>?_) hs
 subst ex
 obtain rfl:ov=Value.ref x:=rx
 rcases q2 with ⟨e0,q2⟩ | ⟨d,fs,hdx,e0,e1,hl,q2⟩
 ·have i0:=I2.isX e0
  obtain ⟨vs0,hx0,_⟩:=id i0
  have nd:H2 s2.heap.objs.size=none:=I2.hok.fresh (Nat.le_refl _)
  have hne:s2.heap.objs.size≠x:=Nat.ne_of_gt (Heap.lt_size hx0)
  refine c7b I2.kIn i0 M.xc M.vm M.sa n λh' t' i1 n1 k1=>?_
  obtain ⟨vs1,hx1,_⟩:=id i1
  obtain ⟨oD,esD,epD,hoD,rD⟩:=id n1
  have m1:(h'.update x λ_=>{ cls:=.ref C,data:=.fields vs0 }).get? x=some { cls:=.ref C,data:=.fields vs0 }:=Heap.get?_update_self _ hx1 rfl
  have m2:∀ b,b≠x->(h'.update x λ_=>{ cls:=.ref C,data:=.fields vs0 }).get? b=h'.get? b:=λb hb=>Heap.get?_update_ne _ _ _ _ hb
  have I3:Inv X pins σ (upd H2 s2.heap.objs.size (J9 s2.heap.objs.size [(f,y)])) { s2 with heap:=h'.update x λ_=>{ cls:=.ref C,data:=.fields vs0 },toks:=t' }:=by
   refine I2.laid (λb ob e=>?_) (Nat.le_refl _) (okD (mA:=λz=>if z=f then some u else none) (n1.at λob e=>(m2 _ hne).trans e) (λg=>?_) (λg hg=>?_) (by show 1<=900;decide))
   ·by_cases hb:b=x
    ·subst hb;rw [hx0] at e;cases e;exact m1
    ·exact (m2 b hb).trans (k1 b ob hb e)
   ·show RelO (List.lookup g [(f,y)]) (if g=f then some u else none)
    rw [List.lookup_cons,List.lookup_nil]
    by_cases q:g=f
    ·subst q;rw [if_pos rfl,show (g==g)=true from by simp];exact ry
    ·have:(g==f)=false:=by simpa using q
     rw [this,if_neg q];exact True.intro
   ·by_cases q:g=f
    ·subst q;exact List.mem_cons_self
    ·exact absurd (if_neg q) hg
  have I4:=I3.write (h':=h') (t':=t') (x:=x) (e:=x) (o:=N6 x C (some s2.heap.objs.size)) (by rw [b9 hne.symm,e0];exact True.intro) (.inl rfl) (λb ob hb e=>((m2 b hb).symm.trans e)) ⟨_,hx1⟩ (okX i1)
  exact ⟨σ,_,I4,q2 _ nd⟩
 ·obtain ⟨mA,n0,r0,w0,l0⟩:=I2.isD e1
  refine c9z I2.kIn (I2.isX e0) n0 hdx M.xc M.vm M.sa n w0 (by rw [List.length_map];omega) λh' t' n1 sb=>?_
  obtain ⟨oD,esD,epD,hoD,rD⟩:=id n1
  refine ⟨σ,_,I2.write (t':=t') (x:=d) (e:=d) (o:=J9 d (J2 f y fs)) (by rw [e1];exact True.intro) (.inl rfl) (λb ob hb e=>(sb.2 b hb).trans e) ⟨_,hoD⟩ (okD n1 (λg=>?_) (λg hg=>?_) ?_),q2⟩
  ·show RelO ((J2 f y fs).lookup g) (if g=f then some u else mA g)
   rw [W8]
   by_cases q:g=f
   ·rw [if_pos q,if_pos q];exact ry
   ·rw [if_neg q,if_neg q];exact r0 g
  ·by_cases q:g=f
   ·rw [q];exact (V0 f y fs).1
   ·exact (V0 f y fs).2 g (w0 g λz=>hg (by show (if g=f then some u else mA g)=none;rw [if_neg q];exact z))
  ·have:=W6 f y fs;omega
noncomputable def c6k:V->Option Value
 | .ref a=>some (.ref a)
 | .ty n=>some (.type n)
 | _=>none
theorem a2f:o0 X (.builtin "isinstance") (λxs H Q=>∃ fr x C d y c b,xs=[.ref x,y]/\XC X.K C/\H x=some (R9 fr x C d)/\(∀ d',d=some d'->∃ fs,H d'=some (J9 d' fs))/\c6k y=some c/\PySem.W.kitOne X.K (.ref C) c=some b/\Q (.bl b) H):=by
 intro pins s σ H xs us Q I r h
 obtain ⟨fr,x,C,d,y,c,b,rfl,M,e0,hd,hc,hk,q⟩:=h
 obtain ⟨u,u2,rfl,ru,ru2⟩:=a5y r
 cases (show u=Value.ref x from ru)
 have e2:u2=c:=by
  cases y <;> first | (cases hc;exact ru2) | cases hc
 subst e2
 have J:∃ ox od,PySem.W.InstAt s.heap x ox C od:=by
  cases d with
  | none=>obtain ⟨ox,J⟩:=(I.isX e0).inst0;exact ⟨ox,_,J⟩
  | some d'=>
   obtain ⟨fs,e1⟩:=hd d' rfl
   obtain ⟨mA,n0,_⟩:=I.isD e1
   obtain ⟨od,hod,_⟩:=a2m n0
   obtain ⟨ox,J⟩:=(I.isX e0).inst1 hod
   exact ⟨ox,_,J⟩
 exact PySem.W.kia_one (d2d M.xc) I.kIn J hk (λz=>nomatch z) λtk=>⟨.bl b,H,I.tok _,rfl,q⟩
end
noncomputable def TbO (T:Addr):HO:=.ext λh=>∃ o ts,h.get? T=some o/\o.data=.fields ts/\3<ts.size
theorem okT {P:Program} {w:World} {H:Hp} {h:Heap} {T:Addr} {o:Obj} {ts:Array Value} (e:h.get? T=some o) (d:o.data=.fields ts) (z:3<ts.size):ObjOk P w H h T (TbO T):=
 ⟨⟨o,ts,e,d,z⟩,⟨o,e⟩,λh1 h2 ⟨o,ts,e,d,z⟩ k=>⟨o,ts,k _ e,d,z⟩⟩
structure Fx (K:PySem.W.Frag) (H:Hp) (a C:Addr) (d tb:Option Addr):Prop where
 xc:XC K C
 at_:H a=some (R9 tb a C d)
 dc:∀ d',d=some d'->d'≠a/\∃ fs,H d'=some (J9 d' fs)
 tb_:∀ T,tb=some T->T≠a/\H T=some (TbO T)
noncomputable def Mv (H:Hp) (a C:Addr) (d:Option Addr) (H':Hp):Prop:=(∀ b o,b≠a->H b=some o->H' b=some o)/\∃ tb,H' a=some (R9 tb a C d)
section
variable {X:Cx} {pins:List (Addr×Obj)} {σ:St} {H:Hp} {s:Shared} {a C T:Addr} {d tb:Option Addr} {A:Around} {E:Value->Shared->Prop} {Q:Unit->Shared->Prop}
theorem Inv.slots {h':Heap} (I:Inv X pins σ H s) (hs:Heap.SlotsOnly (frs X.stack) s.heap h'):Inv X pins σ H { s with heap:=h' }:=by
 have k:∀ b u,H b≠none->s.heap.get? b=some u->h'.get? b=some u:=λb u n e=>(hs.2.1 b λz=>n (I.stkFree b z)).trans e
 have un:Un (frs X.stack) [] H H s.heap h':=⟨λb o e _ nf _=>(hs.2.1 b nf).trans e,λb o e _ _ _=>hs.2.2 b o e,λ_ _ _ n _=>n,λb o e _=>let ⟨sl,q⟩:=hs.2.2 b o e;⟨_,q⟩,λ_ _ e=>e,λ_ _ _ e=>e,λb ps e=>⟨#[],by rw [e];simp⟩⟩
 have hk:HOk X.prog X.w H h':=λb u e=>(I.hok b u e).stay (λc v hc q=>k c v (by
  rcases hc with hc | hc
  ·rw [hc,e];simp
  ·rw [hc];simp) q) (λ_ q=>q) λ_ _ q=>q
 exact I.call (g':=s.gens) (d':=s.drawn) (t':=s.toks) (ch:=[]) un hk I.bare λb z=>absurd z (by simp)
theorem Fx.isX (fx:Fx X.K H a C d tb) (I:Inv X pins σ H s):IsX tb s.heap a C d:=I.isX fx.at_
theorem Inv.setTb {v:Value} (I:Inv X pins σ H s) (e:H T=some (TbO T)) (k:Inv X pins σ H { s with heap:=s.heap.update T (Obj.mapFields (·.setIfInBounds 3 v)) }->Q () { s with heap:=s.heap.update T (Obj.mapFields (·.setIfInBounds 3 v)) }) :
  wpAny (model X.prog X.w) A (setField (.ref T) 3 v) Q E s:=by
 obtain ⟨o,ts,e1,e2,z⟩:=(I.hok T _ e).1
 refine wpAny_setField e1 e2 z (k ?_)
 have hd:=Obj.data_mapFields e2 (·.setIfInBounds 3 v)
 have hu:=Heap.get?_update_self (Obj.mapFields (·.setIfInBounds 3 v)) e1 (Obj.isFreed_of_fields hd)
 have I2:=I.write (h':=s.heap.update T (Obj.mapFields (·.setIfInBounds 3 v))) (t':=s.toks) (x:=T) (e:=T) (o:=TbO T) (by rw [e];exact True.intro) (.inl rfl) (λb u n q=>(Heap.get?_update_other _ _ (Ne.symm n)).trans q) ⟨_,hu⟩ (okT hu hd (by simpa using z))
 rw [b4c e] at I2
 exact I2
theorem a47 {hadNext:Bool} {head:Value} (I:Inv X pins σ H s) (hA:A.frames=some X.stack) (hst:X.stack=X.env :: X.outer) (hf:X.env.frame=some X.env.locals) (fx:Fx X.K H a C d tb)
  (h:∀ H' s' T,Inv X pins σ H' s'->Fx X.K H' a C d (some T)->Mv H a C d H'->Q () s') :
  wpAny (model X.prog X.w) A (do let fr <- frameOf X.env;let pl <- entryPlaceOf X.env.locals hadNext;let b <- EntryCells.newEntry head fr .none (rawInt X.env.locals) .none pl;setField (.ref a) 1 b) Q E s:=by
 have hl:=I.stack
 rw [hst] at hl hA
 refine wpAny_bind (wpAny_frameOf_fun hA hl hf λh₁ hs₁=>?_)
 have I1:Inv X pins σ H { s with heap:=h₁ }:=I.slots (by rw [hst];exact hs₁)
 refine wpAny_bind (wpAny_entryPlaceOf λpl hpl=>?_)
 unfold EntryCells.newEntry newFields
 refine wpAny_bind (wpAny_newObj_type ?_ (hpl.sizeOk5 _ _ _ _ _))
 have e0:=Heap.get?_push_size h₁ (o:={ cls:=.type "traceback",dict:=none,data:=.fields ([head,.ref X.env.locals,.none,rawInt X.env.locals,.none]++(if pl.isEmpty then List.replicate 6 Value.none else pl)).toArray }) rfl
 have I2:=I1.laid (h':=h₁.push { cls:=.type "traceback",dict:=none,data:=.fields ([head,.ref X.env.locals,.none,rawInt X.env.locals,.none]++(if pl.isEmpty then List.replicate 6 Value.none else pl)).toArray }) (a:=h₁.objs.size) (t':=s.toks) (o:=TbO h₁.objs.size) (λb u q=>Heap.get?_push_of_some _ q) (Nat.le_refl _)
  (okT e0 rfl (by simp only [List.size_toArray,List.length_append,List.length_cons,List.length_nil] <;> omega))
 have nT:H h₁.objs.size=none:=I1.hok.fresh (Nat.le_refl _)
 have hTa:h₁.objs.size≠a:=λz=>by rw [z,fx.at_] at nT;cases nT
 have e2:upd H h₁.objs.size (TbO h₁.objs.size) a=some (R9 tb a C d):=by rw [b9 hTa.symm];exact fx.at_
 generalize (h₁.push { cls:=.type "traceback",dict:=none,data:=.fields ([head,.ref X.env.locals,.none,rawInt X.env.locals,.none]++(if pl.isEmpty then List.replicate 6 Value.none else pl)).toArray })=h₂ at I2 ⊢
 obtain ⟨vs,hxo,hsz,hv⟩:=I2.isX e2
 refine wpAny_setField hxo rfl (by omega) ?_
 have hu:=Heap.get?_update_self (Obj.mapFields (·.setIfInBounds 1 (Value.ref h₁.objs.size))) hxo rfl
 have I3:=I2.write (h':=h₂.update a (Obj.mapFields (·.setIfInBounds 1 (Value.ref h₁.objs.size)))) (t':=s.toks) (x:=a) (e:=a) (o:=R9 (some h₁.objs.size) a C d) (by rw [e2];exact True.intro) (.inl rfl)
  (λb u n q=>(Heap.get?_update_other _ _ (Ne.symm n)).trans q) ⟨_,hu⟩ (okX ⟨_,hu,by simpa using hsz,by simp [tbV,hsz]⟩)
 refine h _ _ h₁.objs.size I3 ⟨fx.xc,d4,λd' z=>?_,λT z=>?_⟩ ⟨λb o n q=>?_,_,d4⟩
 ·obtain ⟨n,fs,q⟩:=fx.dc d' z
  exact ⟨n,fs,by rw [b9 n,b9 (d8 q nT)];exact q⟩
 ·cases z
  exact ⟨hTa,by rw [b9 hTa];exact d4⟩
 ·rw [b9 n,b9 (d8 q nT)];exact q
theorem b84 (I:Inv X pins σ H s) (hA:A.frames=some X.stack) (hst:X.stack=X.env :: X.outer) (hf:X.env.frame=some X.env.locals) (fx:Fx X.K H a C d tb)
  (h:∀ H' s' T,Inv X pins σ H' s'->Fx X.K H' a C d (some T)->Mv H a C d H'->Q () s'):wpAny (model X.prog X.w) A (noteFrame (.ref a) X.env) Q E s:=by
 obtain ⟨vs,hxo,hsz,hv⟩:=fx.isX I
 unfold noteFrame
 simp only [hf]
 cases tb with
 | none=>
  refine wpAny_bind (wpAny_field hxo rfl (x:=.none) hv ?_)
  rw [if_neg (by decide)]
  exact a47 I hA hst hf fx h
 | some T=>
  refine wpAny_bind (wpAny_field hxo rfl (x:=.ref T) hv ?_)
  rw [if_pos (show (Value.ref T != Value.none)=true from by simp)]
  obtain ⟨nT,eT⟩:=fx.tb_ T rfl
  obtain ⟨o,ts,e1,e2,z⟩:=(I.hok T _ eT).1
  refine wpAny_bind (wpAny_field e1 e2 (x:=ts[3]) (Array.getElem?_eq_getElem z) ?_)
  by_cases hq:(ts[3]==rawInt X.env.locals)=true
  ·rw [if_pos hq]
   exact wpAny_pure (h H s T I fx ⟨λb o _ q=>q,_,fx.at_⟩)
  ·rw [if_neg hq]
   exact wpAny_bind (I.setTb eT λI2=>a47 I2 hA hst hf fx h)
theorem b0v {fl:Option Addr} (I:Inv X pins σ H s) (fx:Fx X.K H a C d (some T)) (h:∀ s',Inv X pins σ H s'->Q () s'):wpAny (model X.prog X.w) A (setFlight (.ref a) fl) Q E s:=by
 obtain ⟨vs,hxo,hsz,hv⟩:=fx.isX I
 unfold setFlight
 refine wpAny_bind (wpAny_field hxo rfl (x:=.ref T) hv ?_)
 rw [if_pos (show (Value.ref T != Value.none)=true from by simp)]
 exact I.setTb (fx.tb_ T rfl).2 λI2=>h _ I2
theorem a6i (I:Inv X pins σ H s) (hA:A.frames=some X.stack) (hst:X.stack=X.env :: X.outer) (hf:X.env.frame=some X.env.locals) (fx:Fx X.K H a C d tb)
  (h:∀ H' s' T,Inv X pins σ H' s'->Fx X.K H' a C d (some T)->Mv H a C d H'->Q () s'):wpAny (model X.prog X.w) A (leaving X.env (.ref a)) Q E s:=by
 unfold leaving
 exact wpAny_bind (b84 I hA hst hf fx λH1 s1 T I1 fx1 m1=>b0v I1 fx1 λs2 I2=>h H1 s2 T I2 fx1 m1)
end
end L2
end
section
set_option maxHeartbeats 1000000
namespace L2
open PySem PySem.W PySem.Calls PySem.Spec PyProof.Rows
section
variable {prog:Program} {w:World} {A:Around} {E:Value->Shared->Prop} {s:Shared} {K:Frag} {env:PySem.Env}
theorem a32 {x:Sem Value} {Q:Flow->Shared->Prop} (hh:A.handled=none)
  (h:wpAny (model prog w) A x (λv s1=>∃ a C d,v=.ref a/\K.In s1.heap/\XC K C/\IsX none s1.heap a C d/\E (.ref a) s1) E s):wpAny (model prog w) A (raiseStmt env (some x) none) Q E s:=by
 unfold raiseStmt
 refine wpAny_bind (wpAny_mono h (λv s1 h1=>?_) λ_ _ x=>x)
 obtain ⟨a,C,d,rfl,X,M,⟨vs,hxo,hsz,hv⟩,hE⟩:=h1
 have Y:=V1 (M:=model prog w) X M.ex
 have L0:Looks (model prog w) s1.heap (typeOf (.ref a)) (.ref C):=(Looks.ld hxo).andThen .now
 have L1:Looks (model prog w) s1.heap (isType (.ref a)) false:=(Looks.ld hxo).andThen .now
 have L2:Looks (model prog w) s1.heap (isInstance (.ref a) (.type "BaseException")) true:=L0.andThen Y.isB
 have L3:=Y.ty
 unfold excFromValue isExcClass raisedInstance setFlight
 refine wpAny_bind (wpAny_pure (wpAny_bind (wpAny_holding (wpAny_bind (wpAny_bind (L1.here ?_))))))
 simp only [Bool.false_eq_true,if_false]
 refine wpAny_pure ?_
 simp only [Bool.false_eq_true,if_false]
 refine wpAny_bind (L2.here ?_)
 simp only [if_true]
 refine wpAny_pure (wpAny_bind (L1.here ?_))
 simp only [Bool.false_eq_true,if_false]
 refine wpAny_bind (wpAny_bind (L0.here (wpAny_bind (L3.here ?_))))
 rw [if_pos (by rfl)]
 refine wpAny_pure (wpAny_bind (wpAny_bind (wpAny_field hxo rfl (x:=.none) hv ?_)))
 rw [if_neg (by decide)]
 exact wpAny_pure (wpAny_raiseNew_none hh hE)
end
end L2
end
section
set_option maxHeartbeats 1000000
namespace L2
open PySem PySem.Spec PyProof.Rows
section
variable {X:Cx} {pins:List (Addr×Obj)} {σ:St} {H:Hp} {s:Shared}
theorem c40 {v:V} {d:PyData} {u:Value} {E:Value->Shared->Prop} (hg:X.A.guards=some []) (hu:X.A.units+80<cLine) (I:Inv X pins σ H s) (hd:DAt X.K H v d) (ru:RelV v u) (S:Shows d) (hl:d.shown.length<=4000) (hx:∀ x,v=.str x->x.length<=4000) :
  wpAny (model X.prog X.w) X.A (formatField u Str.empty) (λz s'=>∃ y t,z=.str y t/\y.length<=4000/\Inv X pins σ H s') E s:=by
 have sh:=S.sh
 have sz:=S.sz
 have big:(4000:Nat)<=sizeLine:=by decide
 cases hd with
 | non=>cases (show u=Value.none from ru);exact wpAny_formatField_none ⟨_,_,rfl,hl,I.tok _⟩
 | bl b=>cases (show u=Value.bool b from ru);exact wpAny_formatField_bool ⟨_,_,rfl,hl,I.tok _⟩
 | int i=>obtain ⟨t,e⟩:=(show ∃ t,u=Value.int i t from ru);subst e;exact formatField_int_small (by simpa [PyData.showable] using sh) ⟨_,_,rfl,hl,I.tok _⟩
 | str x=>obtain ⟨t,e⟩:=(show ∃ t,u=Value.str x t from ru);subst e;exact formatField_str (λt' tk=>⟨_,_,rfl,hx x rfl,I.tok _⟩) (Nat.le_trans (hx x rfl) big)
 | lst h1 h2=>
  obtain ⟨as,rr⟩:=DAt.reads I (.lst h1 h2) ru
  obtain ⟨a,rfl⟩:=isRef_of_reads rr rfl
  exact formatField_of_reads rr sh (PyData.noDict_hsm S.nd) hg (by have:=S.dp;omega) (λ_ _ e=>e) (λh' u tk hk=>⟨_,_,rfl,hl,I.kept hk⟩) sz
 | tup h1 h2=>
  obtain ⟨as,rr⟩:=DAt.reads I (.tup h1 h2) ru
  obtain ⟨a,rfl⟩:=isRef_of_reads rr rfl
  exact formatField_of_reads rr sh (PyData.noDict_hsm S.nd) hg (by have:=S.dp;omega) (λ_ _ e=>e) (λh' u tk hk=>⟨_,_,rfl,hl,I.kept hk⟩) sz
end
theorem a0d {M:Model} {A:Around} {E:Value->Shared->Prop} {Q Q':Str->Shared->Prop} (k:∀ out s,Q out s->Q' out s):∀ (parts:List (Sem Value)) (acc:Str) (s:Shared),Joins M A E parts acc Q s->Joins M A E parts acc Q' s
 | [],acc,s,h=>k _ _ h
 | x :: r,acc,s,h=>wpAny_mono h (λv s1 ⟨y,t,e,l,q⟩=>⟨y,t,e,l,a0d k r _ s1 q⟩) λ_ _ z=>z
noncomputable abbrev TF:=St->Hp->(Hp->Prop)->Prop
noncomputable def PFs (X:Cx) (es:List Expr) (n:Nat) (t:TF):Prop:=
 ∀ (acc:Str) (pins:List (Addr×Obj)) (s:Shared) (σ:St) (H:Hp) (Q:Hp->Prop),acc.length+n<=sizeLine->Inv X pins σ H s->t σ H Q ->
  Joins (model X.prog X.w) X.A X.xe (evalEach es X.env) acc (λout s1=>out.length<=sizeLine/\∃ H',Inv X pins σ H' s1/\Q H') s
noncomputable def fNil:TF:=λ_ H Q=>Q H
noncomputable def d1z (K:PySem.W.Frag) (te:TE) (t:TF):TF:=λσ H Q=>te σ H λv H1=>∃ d,DAt K H1 v d/\Shows d/\d.shown.length<=4000/\(∀ x,v=.str x->x.length<=4000)/\t σ H1 Q
section
variable {X:Cx} {e:Expr} {es:List Expr} {n:Nat} {t:TF} {te:TE} {pos:Pos}
theorem a9l:PFs X [] 0 fNil:=λacc pins s σ H Q hl I q=>⟨by omega,H,I,q⟩
theorem Z0 {x:Str} {k:Nat} (h:PFs X es n t) (hx:x.length<=1000:=by decide):PFs X (.Constant (.str x) k pos :: es) (1000+n) t:=λacc pins s σ H Q hl I q=>by
 refine Calls.Constant_str ⟨x,_,rfl,?_,?_⟩
 ·rw [strLen_append];omega
 ·exact h (acc++x) pins _ σ H Q (by rw [strLen_append];omega) (I.tok _) q
theorem a3s (hg:X.A.guards=some []) (hu:X.A.units+80<cLine) (he:PE X e te) (h:PFs X es n t):PFs X (.FormattedValue e (-1) none pos :: es) (4000+n) (d1z X.K te t):=λacc pins s σ H Q hl I q=>by
 refine wpAny_FormattedValue_plain (thn (he pins s σ H _ I q) λu s1 ⟨v,H1,I1,ru,d,hd,S,l1,l2,q1⟩=>?_)
 refine thn (c40 hg hu I1 hd ru S l1 l2) λz s2 ⟨y,tk,ez,ly,I2⟩=>?_
 refine ⟨y,tk,ez,?_,?_⟩
 ·rw [strLen_append];omega
 ·exact h (acc++y) pins s2 σ H1 Q (by rw [strLen_append];omega) I2 q1
noncomputable def tFs (t:TF):TE:=λσ H Q=>t σ H λH'=>∀ z:Str,z.length<=sizeLine->Q (.str z) H'
theorem a9n {e2:Expr} (h:PFs X (e :: e2 :: es) n t) (hn:n<=100000):PE X (.JoinedStr (e :: e2 :: es) pos) (tFs t):=by
 intro pins s σ H Q I q
 refine wpAny_JoinedStr ?_
 have big:(100000:Nat)<=sizeLine:=by decide
 have key:=h Str.empty pins s σ H _ (by show 0+n<=sizeLine;omega) I q
 exact a0d (λout s1 ⟨l,H',I',q'⟩=>⟨l,.str out,H',I'.tok _,⟨_,rfl⟩,q' out l⟩) _ _ _ key
theorem a4a {CX:CXT} {k:Nat} {f B:Addr} {fd:FuncData} {ps:List Str} {sp:Sp} {E:XK} {nm m:Str} {p apos:Pos} {pl:Sem Bool} {mc:Value} {ta:TA}
  (hg:Gl X nm) (hm:X.mg nm=some (.ref B)) (hs:PySem.W.specialIn X.K (.ref B) "__getattribute__" = some (some (.builtin "type.__getattribute__"))) (hrd:PySem.W.readsIn X.K B mc=true) (hf:PySem.W.findCls X.K (.ref B) mc m=some (.val (.ref f))) (hk:PySem.W.keepIn X.K (.ref f)=true)
  (F:FnOk X.prog X.w X.K X.mg X.base CX k f fd ps sp) (hr:Room CX.q k X.A) (hb:Binds X.K fd ps []) (hx:D4 CX X E) (ha:PA X (e :: es) ta)
  (hdb:(nm==("__debug__" : Str))=false:=by decide) (hst:starEach (e :: es) X.env=(false,eval e X.env) :: starEach es X.env:=by rfl) (hpl:(backTo pos (starEach es X.env)).any (·.1)=false:=by rfl)
  (ht:eval (.Call (.Attribute (.Name nm p) m apos) (e :: es) [] pos) X.env=(do
   let ov <- eval (.Name nm p) X.env
   standAt apos.atName
   let (f,first) <- holding [ov] (getMethod ov m pl)
   callWith pos f first (backTo pos (starEach (e :: es) X.env)) (backToKw pos (keywordEach [] X.env))):=by rfl) :
  PE X (.Call (.Attribute (.Name nm p) m apos) (e :: es) [] pos) (b11 sp [] E ta):=by
 intro pins s σ H Q I h
 refine PySem.W.methodCall_KW (pl:=pl) (P7 I hg hm ?_ hdb) ht
 refine PySem.W.method_cls I.kIn hs (PySem.W.cls_value I.kIn hrd hf rfl ?_)
 refine PySem.W.callWith_K (first:=[]) (h₀:=X.base) I.ok.mod.kin hk (thn (ha pos pins _ σ H _ (I.tok _) h) λus s1 ⟨vs,H1,I1,r,q⟩=>⟨I1.kIn,?_⟩) hst hpl
 exact a6w F hr hb .nil hx I1 r q
noncomputable def c3k (K:PySem.W.Frag) (ta:TA):TE:=λσ H Q=>ta σ H λvs H1=>∃ x C d y,vs=[.ref x,y]/\XC K C/\H1 x=some (N6 x C d)/\Q .non H1
theorem b5r {p apos:Pos} {pl:Sem Bool} {ta:TA} (hg:Gl X "ValueError") (hm:X.mg "ValueError" = none) (hf:PySem.W.findCls X.K (.type "ValueError") (.type "type") "__init__" = some (.val (.builtin "ValueError.__init__"))) (ha:PA X (e :: es) ta)
  (hst:starEach (e :: es) X.env=(false,eval e X.env) :: starEach es X.env:=by rfl) (hpl:(backTo pos (starEach es X.env)).any (·.1)=false:=by rfl)
  (ht:eval (.Call (.Attribute (.Name "ValueError" p) "__init__" apos) (e :: es) [] pos) X.env=(do
   let ov <- eval (.Name "ValueError" p) X.env
   standAt apos.atName
   let (f,first) <- holding [ov] (getMethod ov "__init__" pl)
   callWith pos f first (backTo pos (starEach (e :: es) X.env)) (backToKw pos (keywordEach [] X.env))):=by rfl) :
  PE X (.Call (.Attribute (.Name "ValueError" p) "__init__" apos) (e :: es) [] pos) (c3k X.K ta):=by
 intro pins s σ H Q I h
 refine PySem.W.methodCall_KW (pl:=pl) (J8 I hg hm (show bootBuiltins "ValueError" = some (.type "ValueError") by rfl) ?_) ht
 obtain ⟨m,hfr⟩:=I.fr
 refine PySem.W.method_type hfr I.ok.mod.kin (by rfl) (by decide +kernel) hf rfl ?_
 refine PyProof.Rows.callWith_builtin1 (thn (ha pos pins _ σ H _ (I.tok _) h) λus s1 ⟨vs,H1,I1,r,x,C,d,y,ev,M,e0,q⟩=>?_) hst hpl
 subst ev
 obtain ⟨u,u2,rfl,ru,ru2⟩:=a5y r
 cases (show u=Value.ref x from ru)
 refine wpAny_call (c9s I1.kIn (I1.isX e0) M.ex λh' k1 i1=>?_)
 obtain ⟨vs1,hx1,_⟩:=id i1
 have I2:=I1.write (h':=h') (t':=s1.toks) (x:=x) (e:=x) (o:=N6 x C d) (by rw [e0];exact True.intro) (.inl rfl) (λb ob hb z=>k1 b ob hb z) ⟨_,hx1⟩ (okX i1)
 rw [b4c e0] at I2
 exact ⟨.non,H1,I2,rfl,q⟩
end
end L2
end
section
set_option maxHeartbeats 1000000
namespace Hn
open PySem L2
noncomputable def spHE (K:PySem.W.Frag):Sp:=λvs H Q _=>∃ (x:Addr) (y:V) (C:Addr) (d:Option Addr),vs=[.ref x,y]/\XC K C/\H x=some (N6 x C d)/\Q .non H
structure Fmt (K:PySem.W.Frag) (H:Hp) (v:V) (d:PyData):Prop where
 at_:DAt K H v d
 sh:Shows d
 l1:d.shown.length<=4000
 l2:∀ x,v=.str x->x.length<=4000
noncomputable def Got (H:Hp) (x C:Addr) (fs:List (Str×V)) (H':Hp):Prop:=∃ d,H d=none/\d≠x/\H' x=some (N6 x C (some d))/\H' d=some (J9 d fs)/\∀ b,b≠x->b≠d->H' b=H b
noncomputable def sp1 (K:PySem.W.Frag) (f:Str):Sp:=λvs H Q _=>∃ (x:Addr) (v:V) (C:Addr) (dv:PyData),vs=[.ref x,v]/\XC K C/\A9 K C f/\H x=some (N6 x C none)/\Fmt K H v dv/\∀ H',Got H x C [(f,v)] H'->Q .non H'
noncomputable def sp2 (K:PySem.W.Frag) (f g:Str):Sp:=λvs H Q _=>∃ (x:Addr) (v u:V) (C:Addr) (dv du:PyData),vs=[.ref x,v,u]/\XC K C/\A9 K C f/\A9 K C g/\H x=some (N6 x C none)/\Fmt K H v dv/\Fmt K H u du /\
 ∀ H',Got H x C [(f,v),(g,u)] H'->Q .non H'
structure TxE (K:PySem.W.Frag) (mg:Str->Option Value) (B fB:Addr):Prop where
 mV:mg "ValueError" = none
 fV:PySem.W.findCls K (.type "ValueError") (.type "type") "__init__" = some (.val (.builtin "ValueError.__init__"))
 mB:mg "HandError" = some (.ref B)
 sB:PySem.W.specialIn K (.ref B) "__getattribute__" = some (some (.builtin "type.__getattribute__"))
 rB:PySem.W.readsIn K B (.type "type")=true
 cB:PySem.W.findCls K (.ref B) (.type "type") "__init__" = some (.val (.ref fB))
 kB:PySem.W.keepIn K (.ref fB)=true
theorem b89 (v u:V):J2 ("at" : Str) u ([("word",v)]:List (Str×V))=([("word",v),("at",u)]:List (Str×V)):=by
 show (if ("word" : Str) = "at" then [(("word" : Str),u)] else (("word" : Str),v) :: J2 "at" u [])=([("word",v),("at",u)]:List (Str×V))
 rw [if_neg (by decide +kernel)]
 rfl
section
variable {K:PySem.W.Frag}
theorem Fmt.laid {H:Hp} {x:Addr} {o:HO} {v:V} {d:PyData} (h:Fmt K H v d) (hx:H x=none):Fmt K (upd H x o) v d:=⟨h.at_.keeps (Keeps.laid hx),h.sh,h.l1,h.l2⟩
end
end Hn
end
section
set_option maxHeartbeats 1000000
namespace L3
open PySem PySem.Spec PyProof.Rows L2
inductive D where
 | non | bl (b:Bool) | int (i:Int) | str (x:Str) | tup (ds:List D) | lst (ds:List D) | scr (ds:List D) | ref (n:Nat)
inductive O where
 | lst (ds:List D) | dct (kvs:List (Key×D)) | exc (c:Nat) (fs:List (Str×D))
noncomputable abbrev Sto:=List O
inductive R (α:Type) where
 | ok (a:α) (S:Sto) | exn (n:Nat) (S:Sto) | bad
noncomputable abbrev M (α:Type):=Sto->R α
noncomputable def ret {α:Type} (a:α):M α:=λS=>.ok a S
noncomputable def bad {α:Type}:M α:=λ_=>.bad
noncomputable def bind {α β:Type} (m:M α) (k:α->M β):M β:=λS=>match m S with
 | .ok a S'=>k a S'
 | .exn n S'=>.exn n S'
 | .bad=>.bad
noncomputable abbrev Env:=List (Option D)
structure Mp where
 pl:List Addr
 rs:List Addr
noncomputable def Mp.push (μ:Mp) (p:Addr):Mp:=⟨μ.pl++[p],μ.rs⟩
noncomputable def TupAt (K:PySem.W.Frag) (μ:Mp) (H:Hp) (a:Addr) (xs:List V):Prop:=
 (Rd H a (.tup xs)/\a∉μ.pl/\a∉μ.rs)\/∃ (o:Obj) (its:Array Value) (n:Nat),K.lookup a=some o/\o.cls=.type "tuple"/\o.data=.seq its n/\its.size<=sizeLine/\Vals xs its.toList/\o.dict=none
noncomputable def ScrAt (K:PySem.W.Frag) (μ:Mp) (H:Hp) (a:Addr) (xs:List V):Prop:=
 (Rd H a (.lst xs)/\a∉μ.pl/\a∉μ.rs)\/∃ (o:Obj) (its:Array Value) (n:Nat),K.lookup a=some o/\o.cls=.type "list"/\o.dict=none/\o.data=.seq its n/\its.size<=sizeLine/\Vals xs its.toList
noncomputable def LstAt (μ:Mp) (H:Hp) (a:Addr) (xs:List V):Prop:=H a=some (.lst xs)/\a∉μ.pl/\a∉μ.rs
theorem TupAt.sq {K:PySem.W.Frag} {μ:Mp} {H:Hp} {a:Addr} {xs:List V} (h:TupAt K μ H a xs):SqT K H a xs:=h.imp (λz=>z.1) λ⟨o,its,n,a,b,c,d,e,_⟩=>⟨o,its,n,a,b,c,d,e⟩
theorem ScrAt.sq {K:PySem.W.Frag} {μ:Mp} {H:Hp} {a:Addr} {xs:List V} (h:ScrAt K μ H a xs):SqL K H a xs:=h.imp (λz=>z.1) id
theorem LstAt.sq {K:PySem.W.Frag} {μ:Mp} {H:Hp} {a:Addr} {xs:List V} (h:LstAt μ H a xs):SqL K H a xs:=.inl (.inl h.1)
mutual
inductive RD (K:PySem.W.Frag) (μ:Mp) (H:Hp):D->V->Prop where
 | non:RD K μ H .non .non
 | bl (b:Bool):RD K μ H (.bl b) (.bl b)
 | int (i:Int):RD K μ H (.int i) (.int i)
 | str (x:Str):RD K μ H (.str x) (.str x)
 | tup {a:Addr} {xs:List V} {ds:List D}:TupAt K μ H a xs->RDs K μ H ds xs->RD K μ H (.tup ds) (.ref a)
 | lst {a:Addr} {xs:List V} {ds:List D}:LstAt μ H a xs->RDs K μ H ds xs->RD K μ H (.lst ds) (.ref a)
 | scr {a:Addr} {xs:List V} {ds:List D}:ScrAt K μ H a xs->RDs K μ H ds xs->RD K μ H (.scr ds) (.ref a)
 | ref {n:Nat} {a:Addr}:μ.pl[n]?=some a->RD K μ H (.ref n) (.ref a)
inductive RDs (K:PySem.W.Frag) (μ:Mp) (H:Hp):List D->List V->Prop where
 | nil:RDs K μ H [] []
 | cons {d:D} {v:V} {ds:List D} {vs:List V}:RD K μ H d v->RDs K μ H ds vs->RDs K μ H (d :: ds) (v :: vs)
end
structure Lat (μ:Mp) (H:Hp) (μ':Mp) (H':Hp):Prop where
 pre:∀ (n:Nat) (a:Addr),μ.pl[n]?=some a->μ'.pl[n]?=some a
 oth:∀ a o,H a=some o->a∉μ.pl->H' a=some o
 new:∀ a,a∈μ'.pl->a∈μ.pl\/H a=none
 rsv:μ'.rs=μ.rs
theorem Lat.refl (μ:Mp) (H:Hp):Lat μ H μ H:=⟨λ_ _ h=>h,λ_ _ h _=>h,λ_ h=>.inl h,rfl⟩
theorem Lat.out {μ μ':Mp} {H H':Hp} (l:Lat μ H μ' H') {a:Addr} {o:HO} (h:H a=some o) (n:a∉μ.pl):a∉μ'.pl:=λz=>by
 rcases l.new a z with q | q
 ·exact n q
 ·rw [h] at q;cases q
theorem Lat.trans {μ μ1 μ2:Mp} {H H1 H2:Hp} (l:Lat μ H μ1 H1) (k:Lat μ1 H1 μ2 H2):Lat μ H μ2 H2:=by
 refine ⟨λn a h=>k.pre n a (l.pre n a h),λa o h n=>k.oth a o (l.oth a o h n) (l.out h n),λa h=>?_,k.rsv.trans l.rsv⟩
 rcases k.new a h with q | q
 ·exact l.new a q
 ·by_cases m:a∈μ.pl
  ·exact .inl m
  ·right
   cases e:H a with
   | none=>rfl
   | some o=>rw [l.oth a o e m] at q;cases q
theorem Rd.later {μ μ':Mp} {H H':Hp} (l:Lat μ H μ' H') {a:Addr} {u:HO} (h:Rd H a u) (n:a∉μ.pl):Rd H' a u/\a∉μ'.pl:=by
 rcases h with h | ⟨o,h⟩
 ·exact ⟨.inl (l.oth _ _ h n),l.out h n⟩
 ·exact ⟨.inr ⟨o,l.oth _ _ h n⟩,l.out h n⟩
theorem TupAt.later {K:PySem.W.Frag} {μ μ':Mp} {H H':Hp} (l:Lat μ H μ' H') {a:Addr} {xs:List V} (h:TupAt K μ H a xs):TupAt K μ' H' a xs:=h.imp (λz=>⟨(Rd.later l z.1 z.2.1).1,(Rd.later l z.1 z.2.1).2,by rw [l.rsv];exact z.2.2⟩) id
theorem ScrAt.later {K:PySem.W.Frag} {μ μ':Mp} {H H':Hp} (l:Lat μ H μ' H') {a:Addr} {xs:List V} (h:ScrAt K μ H a xs):ScrAt K μ' H' a xs:=h.imp (λz=>⟨(Rd.later l z.1 z.2.1).1,(Rd.later l z.1 z.2.1).2,by rw [l.rsv];exact z.2.2⟩) id
theorem LstAt.later {μ μ':Mp} {H H':Hp} (l:Lat μ H μ' H') {a:Addr} {xs:List V} (h:LstAt μ H a xs):LstAt μ' H' a xs:=⟨l.oth _ _ h.1 h.2.1,l.out h.1 h.2.1,by rw [l.rsv];exact h.2.2⟩
mutual
theorem RD.later {K:PySem.W.Frag} {μ μ':Mp} {H H':Hp} (l:Lat μ H μ' H'):∀ {d:D} {v:V},RD K μ H d v->RD K μ' H' d v
 | _,_,.non=>.non
 | _,_,.bl b=>.bl b
 | _,_,.int i=>.int i
 | _,_,.str x=>.str x
 | _,_,.tup h r=>.tup (h.later l) (RDs.later l r)
 | _,_,.lst h r=>.lst (h.later l) (RDs.later l r)
 | _,_,.scr h r=>.scr (h.later l) (RDs.later l r)
 | _,_,.ref h=>.ref (l.pre _ _ h)
theorem RDs.later {K:PySem.W.Frag} {μ μ':Mp} {H H':Hp} (l:Lat μ H μ' H'):∀ {ds:List D} {vs:List V},RDs K μ H ds vs->RDs K μ' H' ds vs
 | _,_,.nil=>.nil
 | _,_,.cons h r=>.cons (RD.later l h) (RDs.later l r)
end
section
variable {K:PySem.W.Frag} {μ:Mp} {H:Hp}
theorem RDs.length:∀ {ds:List D} {vs:List V},RDs K μ H ds vs->ds.length=vs.length
 | _,_,.nil=>rfl
 | _,_,.cons _ r=>by simp [RDs.length r]
theorem RDs.get:∀ {ds:List D} {vs:List V} {i:Nat} {d:D},RDs K μ H ds vs->ds[i]?=some d->∃ v,vs[i]?=some v/\RD K μ H d v
 | _,_,_,_,.nil,e=>by simp at e
 | _,_,0,_,.cons h _,e=>by simp at e;subst e;exact ⟨_,rfl,h⟩
 | _,_,i+1,d,.cons _ r,e=>by
  obtain ⟨v,h1,h2⟩:=RDs.get (i:=i) (d:=d) r (by simpa using e)
  exact ⟨v,by simpa using h1,h2⟩
theorem RDs.append:∀ {ds es:List D} {vs us:List V},RDs K μ H ds vs->RDs K μ H es us->RDs K μ H (ds++es) (vs++us)
 | _,_,_,_,.nil,s=>s
 | _,_,_,_,.cons h r,s=>.cons h (RDs.append r s)
theorem RDs.take:∀ {ds:List D} {vs:List V} (n:Nat),RDs K μ H ds vs->RDs K μ H (ds.take n) (vs.take n)
 | _,_,0,_=>by simpa using RDs.nil
 | _,_,_+1,.nil=>by simpa using RDs.nil
 | _,_,n+1,.cons h r=>by simpa using RDs.cons h (RDs.take n r)
theorem RDs.drop:∀ {ds:List D} {vs:List V} (n:Nat),RDs K μ H ds vs->RDs K μ H (ds.drop n) (vs.drop n)
 | _,_,0,h=>by simpa using h
 | _,_,_+1,.nil=>by simpa using RDs.nil
 | _,_,n+1,.cons _ r=>by simpa using RDs.drop n r
theorem RDs.set {d:D} {v:V} (q:RD K μ H d v):∀ {ds:List D} {vs:List V} (n:Nat),RDs K μ H ds vs->RDs K μ H (ds.set n d) (vs.set n v)
 | _,_,_,.nil=>by simpa using RDs.nil
 | _,_,0,.cons h r=>by simpa using RDs.cons q r
 | _,_,n+1,.cons h r=>by simpa using RDs.cons h (RDs.set q n r)
theorem RDs.rep {ds:List D} {vs:List V} (r:RDs K μ H ds vs):∀ k:Nat,RDs K μ H (List.replicate k ds).flatten (List.replicate k vs).flatten
 | 0=>.nil
 | k+1=>by
  rw [List.replicate_succ,List.replicate_succ,List.flatten_cons,List.flatten_cons]
  exact r.append (RDs.rep r k)
theorem RDs.ints:∀ ns:List Int,RDs K μ H (ns.map D.int) (ns.map V.int)
 | []=>.nil
 | n :: ns=>.cons (.int n) (RDs.ints ns)
end
noncomputable def b10 (K:PySem.W.Frag) (μ:Mp) (H:Hp):List (Str×D)->List (Str×V)->Prop:=Paired λp q=>p.1=q.1/\RD K μ H p.2 q.2
noncomputable def KvsAt (K:PySem.W.Frag) (μ:Mp) (H:Hp):List (Key×D)->List (Key×V)->Prop:=Paired λp q=>p.1=q.1/\RD K μ H p.2 q.2
noncomputable def OAt (K:PySem.W.Frag) (cl:Nat->Addr) (μ:Mp) (H:Hp) (a:Addr):O->Prop
 | .lst ds=>∃ xs,H a=some (.lst xs)/\RDs K μ H ds xs
 | .dct kvs=>∃ ks,H a=some (.dK ks)/\KvsAt K μ H kvs ks
 | .exc c fs=>XC K (cl c)/\∃ gs,b10 K μ H fs gs/\∃ fr,((gs=[]/\H a=some (R9 fr a (cl c) none))\/∃ d,d≠a/\d∉μ.pl/\H a=some (R9 fr a (cl c) (some d))/\H d=some (J9 d gs))
structure Rep (K:PySem.W.Frag) (cl:Nat->Addr) (μ:Mp) (S:Sto) (H:Hp):Prop where
 len:μ.pl.length=S.length
 nd:μ.pl.Nodup
 ats:∀ (n:Nat) (o:O) (a:Addr),S[n]?=some o->μ.pl[n]?=some a->OAt K cl μ H a o
 res:∀ a,a∈μ.rs->a∉μ.pl/\∃ u,H a=some u
theorem Paired.mono {α β:Type} {P Q:α->β->Prop} (h:∀ a b,P a b->Q a b):∀ {xs:List α} {ys:List β},Paired P xs ys->Paired Q xs ys
 | _,_,.nil=>.nil
 | _,_,.cons r t=>.cons (h _ _ r) (Paired.mono h t)
section
variable {K:PySem.W.Frag} {cl:Nat->Addr} {μ:Mp} {S:Sto} {H:Hp}
theorem OAt.some {a:Addr} {o:O} (h:OAt K cl μ H a o):∃ u,H a=some u:=by
 cases o with
 | lst ds=>obtain ⟨xs,e,_⟩:=h;exact ⟨_,e⟩
 | dct kvs=>obtain ⟨xs,e,_⟩:=h;exact ⟨_,e⟩
 | exc c fs=>
  obtain ⟨_,gs,_,fr,⟨_,e⟩ | ⟨d,_,_,e,_⟩⟩:=h
  ·exact ⟨_,e⟩
  ·exact ⟨_,e⟩
theorem Rep.tracked (r:Rep K cl μ S H) {a:Addr} (h:a∈μ.pl):∃ u,H a=some u:=by
 obtain ⟨n,hn,e⟩:=List.getElem_of_mem h
 have hs:n<S.length:=by rw [<- r.len];exact hn
 exact (r.ats n S[n] a (List.getElem?_eq_getElem hs) (by rw [List.getElem?_eq_getElem hn,e])).some
theorem Rep.notrs (r:Rep K cl μ S H) {p:Addr} (h:H p=none):p∉μ.rs:=λz=>by
 obtain ⟨_,u,e⟩:=r.res p z
 rw [h] at e;cases e
theorem Rep.notin (r:Rep K cl μ S H) {p:Addr} (h:H p=none):p∉μ.pl:=λz=>by
 obtain ⟨u,e⟩:=r.tracked z
 rw [h] at e;cases e
theorem Lat.laid {p:Addr} {o:HO} (h:H p=none):Lat μ H μ (upd H p o):=⟨λ_ _ h=>h,λa u e _=>by rw [b9 (d8 e h)];exact e,λ_ h=>.inl h,rfl⟩
theorem Rep.keep {H':Hp} (r:Rep K cl μ S H) (l:Lat μ H μ H') (k:∀ a,a∈μ.pl->H' a=H a):Rep K cl μ S H':=by
 refine ⟨r.len,r.nd,λn o a e1 e2=>?_,λa m=>let ⟨h1,u,h2⟩:=r.res a m;⟨h1,u,l.oth _ _ h2 h1⟩⟩
 have ka:=k a (List.mem_of_getElem? e2)
 have h:=r.ats n o a e1 e2
 cases o with
 | lst ds=>obtain ⟨xs,e,q⟩:=h;exact ⟨xs,by rw [ka];exact e,q.later l⟩
 | dct kvs=>obtain ⟨xs,e,q⟩:=h;exact ⟨xs,by rw [ka];exact e,Paired.mono (λ_ _ ⟨z,w⟩=>⟨z,w.later l⟩) q⟩
 | exc c fs=>
  obtain ⟨xc,gs,q,fr,h⟩:=h
  refine ⟨xc,gs,Paired.mono (λ_ _ ⟨z,w⟩=>⟨z,w.later l⟩) q,fr,?_⟩
  rcases h with ⟨z,e⟩ | ⟨d,h1,h2,e,e2⟩
  ·exact .inl ⟨z,by rw [ka];exact e⟩
  ·exact .inr ⟨d,h1,h2,by rw [ka];exact e,l.oth _ _ e2 h2⟩
theorem Rep.laid {p:Addr} {o:HO} (r:Rep K cl μ S H) (h:H p=none):Rep K cl μ S (upd H p o):=r.keep (Lat.laid h) λa m=>b9 λz=>r.notin h (z▸m)
theorem Lat.pushed {p:Addr} {H':Hp} (h:H p=none) (k:∀ a u,H a=some u->H' a=some u):Lat μ H (μ.push p) H':=
 ⟨λn a e=>by show (μ.pl++[p])[n]?=_;rw [List.getElem?_append_left (List.getElem?_eq_some_iff.mp e).1];exact e,λa u e _=>k a u e,λa m=>by
  rcases List.mem_append.mp m with z | z
  ·exact .inl z
  ·exact .inr (by rw [List.mem_singleton.mp z];exact h),rfl⟩
theorem OAt.later {μ':Mp} {H':Hp} {a:Addr} {o:O} (h:OAt K cl μ H a o) (l:Lat μ H μ' H') (ka:H' a=H a):OAt K cl μ' H' a o:=by
 cases o with
 | lst ds=>obtain ⟨xs,e,q⟩:=h;exact ⟨xs,by rw [ka];exact e,q.later l⟩
 | dct kvs=>obtain ⟨xs,e,q⟩:=h;exact ⟨xs,by rw [ka];exact e,Paired.mono (λ_ _ ⟨z,w⟩=>⟨z,w.later l⟩) q⟩
 | exc c fs=>
  obtain ⟨xc,gs,q,fr,h⟩:=h
  refine ⟨xc,gs,Paired.mono (λ_ _ ⟨z,w⟩=>⟨z,w.later l⟩) q,fr,?_⟩
  rcases h with ⟨z,e⟩ | ⟨d,h1,h2,e,e2⟩
  ·exact .inl ⟨z,by rw [ka];exact e⟩
  ·exact .inr ⟨d,h1,l.out e2 h2,by rw [ka];exact e,l.oth _ _ e2 h2⟩
theorem Rep.pushed {p:Addr} {H':Hp} {o:O} (r:Rep K cl μ S H) (h:H p=none) (k:∀ a u,H a=some u->H' a=some u) (ho:OAt K cl (μ.push p) H' p o):Rep K cl (μ.push p) (S++[o]) H':=by
 have l:=Lat.pushed (μ:=μ) h k
 refine ⟨by simp [Mp.push,r.len],?_,λn u a e1 e2=>?_,λa m=>?_⟩
 ·show (μ.pl++[p]).Nodup
  rw [List.nodup_append]
  exact ⟨r.nd,by simp,λa m b m2=>by rw [List.mem_singleton.mp m2];rintro rfl;exact r.notin h m⟩
 ·have e2:(μ.pl++[p])[n]?=some a:=e2
  by_cases hn:n<S.length
  ·rw [List.getElem?_append_left hn] at e1
   rw [List.getElem?_append_left (by rw [r.len];exact hn)] at e2
   have q:=r.ats n u a e1 e2
   obtain ⟨z,ez⟩:=q.some
   exact q.later l ((k a z ez).trans ez.symm)
  ·have hn2:n=S.length:=by
    have:=(List.getElem?_eq_some_iff.mp e1).1
    simp at this;omega
   subst hn2
   rw [<- r.len] at e2
   simp at e1 e2
   subst e1;subst e2
   exact ho
 ·obtain ⟨h1,u,h2⟩:=r.res a m
  refine ⟨λz=>?_,u,k a u h2⟩
  rcases List.mem_append.mp (show a∈μ.pl++[p] from z) with z | z
  ·exact h1 z
  ·rw [List.mem_singleton.mp z,h] at h2;cases h2
theorem Lat.wrote {a:Addr} {o:HO} (h:a∈μ.pl):Lat μ H μ (upd H a o):=⟨λ_ _ h=>h,λb u e n=>by rw [b9 (λz=>n (by rw [z];exact h))];exact e,λ_ h=>.inl h,rfl⟩
theorem Rep.wrote {n:Nat} {a:Addr} {u:HO} {o:O} (r:Rep K cl μ S H) (e:μ.pl[n]?=some a) (ho:OAt K cl μ (upd H a u) a o):Rep K cl μ (S.set n o) (upd H a u):=by
 have m:a∈μ.pl:=List.mem_of_getElem? e
 refine ⟨by simp [r.len],r.nd,λk w b e1 e2=>?_,λb mb=>let ⟨h1,u',h2⟩:=r.res b mb;⟨h1,u',by rw [b9 (λz=>h1 (by rw [z];exact m))];exact h2⟩⟩
 by_cases hk:n=k
 ·subst hk
  rw [e] at e2;cases e2
  rw [List.getElem?_set_self (by have:=(List.getElem?_eq_some_iff.mp e).1;rw [r.len] at this;exact this)] at e1
  cases e1;exact ho
 ·rw [List.getElem?_set_ne hk] at e1
  have hb:b≠a:=λz=>by
   subst z
   obtain ⟨h1,q1⟩:=List.getElem?_eq_some_iff.mp e
   obtain ⟨h2,q2⟩:=List.getElem?_eq_some_iff.mp e2
   exact hk ((List.getElem_inj r.nd).mp (q1.trans q2.symm))
  exact (r.ats k w b e1 e2).later (Lat.wrote m) (b9 hb)
end
noncomputable def Mp.hold (μ:Mp) (p:Addr):Mp:=⟨μ.pl,p :: μ.rs⟩
mutual
theorem RD.move {K:PySem.W.Frag} {μ μ':Mp} {H H':Hp} (hp:∀ (n:Nat) (a:Addr),μ.pl[n]?=some a->μ'.pl[n]?=some a) (ho:∀ a u,H a=some u->a∉μ.pl->a∉μ.rs->H' a=some u/\a∉μ'.pl/\a∉μ'.rs):∀ {d:D} {v:V},RD K μ H d v->RD K μ' H' d v
 | _,_,.non=>.non
 | _,_,.bl b=>.bl b
 | _,_,.int i=>.int i
 | _,_,.str x=>.str x
 | _,_,.tup h r=>.tup (h.imp (λ⟨q,n1,n2⟩=>by
   rcases q with q | ⟨o,q⟩
   ·exact ⟨.inl (ho _ _ q n1 n2).1,(ho _ _ q n1 n2).2⟩
   ·exact ⟨.inr ⟨o,(ho _ _ q n1 n2).1⟩,(ho _ _ q n1 n2).2⟩) id) (RDs.move hp ho r)
 | _,_,.lst h r=>.lst (ho _ _ h.1 h.2.1 h.2.2) (RDs.move hp ho r)
 | _,_,.scr h r=>.scr (h.imp (λ⟨q,n1,n2⟩=>by
   rcases q with q | ⟨o,q⟩
   ·exact ⟨.inl (ho _ _ q n1 n2).1,(ho _ _ q n1 n2).2⟩
   ·exact ⟨.inr ⟨o,(ho _ _ q n1 n2).1⟩,(ho _ _ q n1 n2).2⟩) id) (RDs.move hp ho r)
 | _,_,.ref h=>.ref (hp _ _ h)
theorem RDs.move {K:PySem.W.Frag} {μ μ':Mp} {H H':Hp} (hp:∀ (n:Nat) (a:Addr),μ.pl[n]?=some a->μ'.pl[n]?=some a) (ho:∀ a u,H a=some u->a∉μ.pl->a∉μ.rs->H' a=some u/\a∉μ'.pl/\a∉μ'.rs):∀ {ds:List D} {vs:List V},RDs K μ H ds vs->RDs K μ' H' ds vs
 | _,_,.nil=>.nil
 | _,_,.cons h r=>.cons (RD.move hp ho h) (RDs.move hp ho r)
end
section
variable {K:PySem.W.Frag} {cl:Nat->Addr} {μ:Mp} {S:Sto} {H:Hp}
theorem Rep.move {μ':Mp} {H':Hp} (r:Rep K cl μ S H) (hr:∀ a,a∈μ'.rs->a∉μ'.pl/\∃ u,H' a=some u) (hp:μ'.pl=μ.pl) (hk:∀ a,a∈μ.pl->H' a=H a) (hx:∀ a u,H a=some (.ext u)->H' a=some (.ext u)) (ho:∀ a u,H a=some u->a∉μ.pl->a∉μ.rs->H' a=some u/\a∉μ'.pl/\a∉μ'.rs):Rep K cl μ' S H':=by
 have hp':∀ (n:Nat) (a:Addr),μ.pl[n]?=some a->μ'.pl[n]?=some a:=λn a e=>by rw [hp];exact e
 refine ⟨by rw [hp];exact r.len,by rw [hp];exact r.nd,λn o a e1 e2=>?_,hr⟩
 rw [hp] at e2
 have ka:=hk a (List.mem_of_getElem? e2)
 have h:=r.ats n o a e1 e2
 cases o with
 | lst ds=>obtain ⟨xs,e,q⟩:=h;exact ⟨xs,by rw [ka];exact e,q.move hp' ho⟩
 | dct kvs=>obtain ⟨xs,e,q⟩:=h;exact ⟨xs,by rw [ka];exact e,Paired.mono (λ_ _ ⟨z,w⟩=>⟨z,w.move hp' ho⟩) q⟩
 | exc c fs=>
  obtain ⟨xc,gs,q,fr,h⟩:=h
  refine ⟨xc,gs,Paired.mono (λ_ _ ⟨z,w⟩=>⟨z,w.move hp' ho⟩) q,fr,?_⟩
  rcases h with ⟨z,e⟩ | ⟨d,h1,h2,e,e2⟩
  ·exact .inl ⟨z,by rw [ka];exact e⟩
  ·exact .inr ⟨d,h1,by rw [hp];exact h2,by rw [ka];exact e,hx _ _ e2⟩
end
end L3
end

section
set_option maxHeartbeats 1000000
namespace L3
open PySem PySem.Spec PyProof.Rows L2
section
variable (K:PySem.W.Frag) (cl:Nat->Addr) (xe:Addr->Hp->Prop)
noncomputable def Post {α:Type} (μ:Mp) (H:Hp) (r:R α) (G:α->Sto->Mp->Hp->Prop):Prop:=match r with
 | .ok a S=>∀ μ' H',Lat μ H μ' H'->Rep K cl μ' S H'->G a S μ' H'
 | .exn n S=>∀ μ' H' a,Lat μ H μ' H'->Rep K cl μ' S H'->μ'.pl[n]?=some a->xe a H'
 | .bad=>False
end
section
variable {K:PySem.W.Frag} {cl:Nat->Addr} {xe:Addr->Hp->Prop} {α β:Type} {μ μ1:Mp} {H H1:Hp}
theorem Post.later {r:R α} {G:α->Sto->Mp->Hp->Prop} (h:Post K cl xe μ H r G) (l:Lat μ H μ1 H1):Post K cl xe μ1 H1 r G:=by
 cases r with
 | ok a S=>exact λμ' H' k r=>h μ' H' (l.trans k) r
 | exn n S=>exact λμ' H' a k r e=>h μ' H' a (l.trans k) r e
 | bad=>exact h
theorem Post.imp {r:R α} {G G':α->Sto->Mp->Hp->Prop} (h:Post K cl xe μ H r G) (k:∀ a S μ' H',Lat μ H μ' H'->Rep K cl μ' S H'->G a S μ' H'->G' a S μ' H'):Post K cl xe μ H r G':=by
 cases r with
 | ok a S=>exact λμ' H' l r=>k a S μ' H' l r (h μ' H' l r)
 | exn n S=>exact h
 | bad=>exact h
theorem Post.bind {m:M α} {k:α->M β} {S:Sto} {G:β->Sto->Mp->Hp->Prop} (h:Post K cl xe μ H (bind m k S) G):Post K cl xe μ H (m S) (λa S1 μ1 H1=>Post K cl xe μ1 H1 (k a S1) G):=by
 unfold L3.bind at h
 cases e:m S with
 | ok a S1=>
  rw [e] at h
  exact λμ' H' l r=>Post.later h l
 | exn n S1=>rw [e] at h;exact h
 | bad=>rw [e] at h;exact h
theorem Post.ret {a:α} {S:Sto} {G:α->Sto->Mp->Hp->Prop} (h:Post K cl xe μ H (ret a S) G):∀ μ' H',Lat μ H μ' H'->Rep K cl μ' S H'->G a S μ' H':=h
end
noncomputable def EnvOk (K:PySem.W.Frag) (μ:Mp) (H:Hp) (ρ:Env) (σ:L2.St):Prop:=ρ.length=σ.length/\∀ (i:Nat) (d:D),ρ[i]?=some (some d)->∃ v,σ[i]?=some (some v)/\RD K μ H d v
theorem EnvOk.later {K:PySem.W.Frag} {μ μ1:Mp} {H H1:Hp} {ρ:Env} {σ:L2.St} (h:EnvOk K μ H ρ σ) (l:Lat μ H μ1 H1):EnvOk K μ1 H1 ρ σ:=⟨h.1,λi d e=>let ⟨v,q,r⟩:=h.2 i d e;⟨v,q,r.later l⟩⟩
theorem EnvOk.set {K:PySem.W.Frag} {μ:Mp} {H:Hp} {ρ:Env} {σ:L2.St} {d:D} {v:V} (h:EnvOk K μ H ρ σ) (r:RD K μ H d v) (i:Nat):EnvOk K μ H (ρ.set i (some d)) (σ.set i (some v)):=by
 refine ⟨by simp [h.1],λj e he=>?_⟩
 by_cases hij:i=j
 ·subst hij
  have hi:i<ρ.length:=by
   have:=(List.getElem?_eq_some_iff.mp he).1
   simpa using this
  rw [List.getElem?_set_self hi] at he
  cases he
  exact ⟨v,List.getElem?_set_self (by rw [<- h.1];exact hi),r⟩
 ·rw [List.getElem?_set_ne hij] at he
  obtain ⟨u,q,r2⟩:=h.2 j e he
  exact ⟨u,by rw [List.getElem?_set_ne hij];exact q,r2⟩
section
variable (K:PySem.W.Frag) (cl:Nat->Addr) (xe:Addr->Hp->Prop)
noncomputable def tD (f:Env->M D):TE:=λσ H Q=>∃ μ S ρ,EnvOk K μ H ρ σ/\Rep K cl μ S H/\Post K cl xe μ H (f ρ S) λd _ μ' H'=>∀ v,RD K μ' H' d v->Q v H'
noncomputable def tDs (f:Env->M (List D)):TA:=λσ H Q=>∃ μ S ρ,EnvOk K μ H ρ σ/\Rep K cl μ S H/\Post K cl xe μ H (f ρ S) λds _ μ' H'=>∀ vs,RDs K μ' H' ds vs->Q vs H'
noncomputable def tBo (f:Env->M Bool):TT:=λσ H Q=>∃ μ S ρ,EnvOk K μ H ρ σ/\Rep K cl μ S H/\Post K cl xe μ H (f ρ S) λb _ _ H'=>Q b H'
noncomputable def rP2 (g:D->D->M D):R2:=λx y H Q=>∃ μ S d e,RD K μ H d x/\RD K μ H e y/\Rep K cl μ S H/\Post K cl xe μ H (g d e S) λr _ μ' H'=>∀ v,RD K μ' H' r v->Q v H'
noncomputable def rPs (g:List D->M D):List V->Hp->VK->Prop:=λxs H Q=>∃ μ S ds,RDs K μ H ds xs/\Rep K cl μ S H/\Post K cl xe μ H (g ds S) λr _ μ' H'=>∀ v,RD K μ' H' r v->Q v H'
end
theorem PE.imp {X:Cx} {e:Expr} {t t':TE} (h:PE X e t) (k:∀ σ H Q,t' σ H Q->t σ H Q):PE X e t':=λpins s σ H Q I q=>h pins s σ H Q I (k σ H Q q)
theorem PT.imp {X:Cx} {e:Expr} {t t':TT} (h:PT X e t) (k:∀ σ H Q,t' σ H Q->t σ H Q):PT X e t':=λpins s σ H Q I q=>h pins s σ H Q I (k σ H Q q)
theorem PW.imp {X:Cx} {e:Expr} {t t':TT} (h:PW X e t) (k:∀ σ H Q,t' σ H Q->t σ H Q):PW X e t':=λw pins s σ H Q I q=>h w pins s σ H Q I (k σ H Q q)
theorem PA.imp {X:Cx} {es:List Expr} {t t':TA} (h:PA X es t) (k:∀ σ H Q,t' σ H Q->t σ H Q):PA X es t':=λp pins s σ H Q I q=>h p pins s σ H Q I (k σ H Q q)
theorem PS.imp {X:Cx} {st:Stmt} {t t':TS} (h:PS X st t) (k:∀ D σ H,t' D σ H->t D σ H):PS X st t':=λpins s σ H D I q=>h pins s σ H D I (k D σ H q)
theorem PSs.imp {X:Cx} {st:List Stmt} {t t':TS} (h:PSs X st t) (k:∀ D σ H,t' D σ H->t D σ H):PSs X st t':=λpins s σ H D I q=>h pins s σ H D I (k D σ H q)
section
variable {X:Cx} {cl:Nat->Addr} {xe:Addr->Hp->Prop} {a b c:Expr} {es:List Expr} {pos:Pos} {f g:Env->M D}
theorem k5 {e:Expr}:PE X e (tD X.K cl xe λ_=>bad):=λ_ _ _ _ _ _ ⟨_,_,_,_,_,p⟩=>p.elim
theorem a6u {e:Expr}:PT X e (tBo X.K cl xe λ_=>bad):=λ_ _ _ _ _ _ ⟨_,_,_,_,_,p⟩=>p.elim
theorem pw_bad {e:Expr}:PW X e (tBo X.K cl xe λ_=>bad):=λ_ _ _ _ _ _ _ ⟨_,_,_,_,_,p⟩=>p.elim
theorem J5 {e:Expr} {v:V} {d:D} (h:PE X e (tC v)) (r:∀ μ H,RD X.K μ H d v):PE X e (tD X.K cl xe λ_=>ret d):=PE.imp h λσ H Q ⟨μ,S,ρ,eo,rp,p⟩=>p.ret μ H (Lat.refl _ _) rp v (r μ H)
noncomputable def getD (i:Nat) (ρ:Env):M D:=match ρ[i]? with
 | some (some d)=>ret d
 | _=>bad
theorem c5k {i:Nat} {e:Expr} (h:PE X e (c3s i)):PE X e (tD X.K cl xe λρ=>getD i ρ):=PE.imp h λσ H Q ⟨μ,S,ρ,eo,rp,p⟩=>by
 cases e:ρ[i]? with
 | none=>simp only [getD,e] at p;exact p.elim
 | some o=>
  cases o with
  | none=>simp only [getD,e] at p;exact p.elim
  | some d=>
   simp only [getD,e] at p
   obtain ⟨v,q,r⟩:=eo.2 i d e
   exact ⟨v,q,p.ret μ H (Lat.refl _ _) rp v r⟩
theorem c5q {op:Operator} {h:D->D->M D} (ha:PE X a (tD X.K cl xe f)) (hb:PE X b (tD X.K cl xe g)) (ho:OpR X (binaryOp op) (rP2 X.K cl xe h)) :
  PE X (.BinOp a op b pos) (tD X.K cl xe λρ=>bind (f ρ) λx=>bind (g ρ) λy=>h x y):=PE.imp (c7s ho ha hb) λσ H Q ⟨μ,S,ρ,eo,rp,p⟩=>
 ⟨μ,S,ρ,eo,rp,p.bind.imp λx S1 μ1 H1 l1 r1 p1 v rv=>⟨μ1,S1,ρ,eo.later l1,r1,p1.bind.imp λy S2 μ2 H2 l2 r2 p2 u ru=>⟨μ2,S2,x,y,rv.later l2,ru,r2,p2⟩⟩⟩
theorem c39 {op:CmpOp} {h:D->D->M D} (ha:PE X a (tD X.K cl xe f)) (hb:PE X b (tD X.K cl xe g)) (ho:OpR X (compareOp op) (rP2 X.K cl xe h)) (hm:behindInMarks op b=false) :
  PE X (.Compare a [op] [b] pos) (tD X.K cl xe λρ=>bind (f ρ) λx=>bind (g ρ) λy=>h x y):=PE.imp (b9l ho ha hb hm) λσ H Q ⟨μ,S,ρ,eo,rp,p⟩=>
 ⟨μ,S,ρ,eo,rp,p.bind.imp λx S1 μ1 H1 l1 r1 p1 v rv=>⟨μ1,S1,ρ,eo.later l1,r1,p1.bind.imp λy S2 μ2 H2 l2 r2 p2 u ru=>⟨μ2,S2,x,y,rv.later l2,ru,r2,p2⟩⟩⟩
theorem c8a {h:D->D->M D} (ha:PE X a (tD X.K cl xe f)) (hb:PE X b (tD X.K cl xe g)) (ho:IxR X (rP2 X.K cl xe h)) (hs:a2w b) :
  PE X (.Subscript a b pos) (tD X.K cl xe λρ=>bind (f ρ) λx=>bind (g ρ) λy=>h x y):=PE.imp (c9q ho ha hb hs) λσ H Q ⟨μ,S,ρ,eo,rp,p⟩=>
 ⟨μ,S,ρ,eo,rp,p.bind.imp λx S1 μ1 H1 l1 r1 p1 v rv=>⟨μ1,S1,ρ,eo.later l1,r1,p1.bind.imp λy S2 μ2 H2 l2 r2 p2 u ru=>⟨μ2,S2,x,y,rv.later l2,ru,r2,p2⟩⟩⟩
theorem c8l {t:Env->M Bool} (hc:PT X c (tBo X.K cl xe t)) (ha:PE X a (tD X.K cl xe f)) (hb:PE X b (tD X.K cl xe g)):PE X (.IfExp c a b pos) (tD X.K cl xe λρ=>bind (t ρ) λq=>if q=true then f ρ else g ρ):=PE.imp (b54 hc ha hb) λσ H Q ⟨μ,S,ρ,eo,rp,p⟩=>
 ⟨μ,S,ρ,eo,rp,p.bind.imp λq S1 μ1 H1 l1 r1 p1=>by
  cases q with
  | true=>exact ⟨μ1,S1,ρ,eo.later l1,r1,p1⟩
  | false=>exact ⟨μ1,S1,ρ,eo.later l1,r1,p1⟩⟩
theorem c6d {t:Env->M Bool} (h:PT X a (tBo X.K cl xe t)):PT X (.UnaryOp .Not a pos) (tBo X.K cl xe λρ=>bind (t ρ) λq=>ret (!q)):=PT.imp (c42 h) λσ H Q ⟨μ,S,ρ,eo,rp,p⟩=>
 ⟨μ,S,ρ,eo,rp,p.bind.imp λq S1 μ1 H1 l1 r1 p1=>p1.ret μ1 H1 (Lat.refl _ _) r1⟩
theorem b75 {t:Env->M Bool} (h:PT X a (tBo X.K cl xe t)):PW X (.BoolOp .And [a] pos) (tBo X.K cl xe t):=pw_and1 h
theorem c2f {t:Env->M Bool} (h:PT X a (tBo X.K cl xe t)):PW X (.BoolOp .Or [a] pos) (tBo X.K cl xe t):=pw_or1 h
theorem c5i {t u:Env->M Bool} {rest:List Expr} (h:PT X a (tBo X.K cl xe t)) (k:PW X (.BoolOp .And (b :: rest) pos) (tBo X.K cl xe u)):PW X (.BoolOp .And (a :: b :: rest) pos) (tBo X.K cl xe λρ=>bind (t ρ) λq=>if q=true then u ρ else ret false):=PW.imp (pw_and h k) λσ H Q ⟨μ,S,ρ,eo,rp,p⟩=>
 ⟨μ,S,ρ,eo,rp,p.bind.imp λq S1 μ1 H1 l1 r1 p1=>by
  cases q with
  | true=>exact ⟨μ1,S1,ρ,eo.later l1,r1,p1⟩
  | false=>exact p1.ret μ1 H1 (Lat.refl _ _) r1⟩
theorem c73 {t u:Env->M Bool} {rest:List Expr} (h:PT X a (tBo X.K cl xe t)) (k:PW X (.BoolOp .Or (b :: rest) pos) (tBo X.K cl xe u)):PW X (.BoolOp .Or (a :: b :: rest) pos) (tBo X.K cl xe λρ=>bind (t ρ) λq=>if q=true then ret true else u ρ):=PW.imp (pw_or h k) λσ H Q ⟨μ,S,ρ,eo,rp,p⟩=>
 ⟨μ,S,ρ,eo,rp,p.bind.imp λq S1 μ1 H1 l1 r1 p1=>by
  cases q with
  | true=>exact p1.ret μ1 H1 (Lat.refl _ _) r1
  | false=>exact ⟨μ1,S1,ρ,eo.later l1,r1,p1⟩⟩
noncomputable def asB (d:D):M Bool:=match d with
 | .bl b=>ret b
 | _=>bad
theorem c4t {K:PySem.W.Frag} {μ1:Mp} {H1:Hp} {S:Sto} {d:D} {v:V} {Q:Bool->Hp->Prop} (rv:RD K μ1 H1 d v) (rp:Rep K cl μ1 S H1) (p:Post K cl xe μ1 H1 (asB d S) λb _ _ H'=>Q b H'):∃ k,v=.bl k/\Q k H1:=by
 cases rv with
 | bl b=>exact ⟨b,rfl,p.ret μ1 H1 (Lat.refl _ _) rp⟩
 | _=>exact p.elim
theorem c38 {op:CmpOp} {h:D->D->M D} (ha:PE X a (tD X.K cl xe f)) (hb:PE X b (tD X.K cl xe g)) (ho:OpR X (compareOp op) (rP2 X.K cl xe h)) (hm:behindInMarks op b=false) :
  PT X (.Compare a [op] [b] pos) (tBo X.K cl xe λρ=>bind (f ρ) λx=>bind (g ρ) λy=>bind (h x y) asB):=PT.imp (b6y ho ha hb hm) λσ H Q ⟨μ,S,ρ,eo,rp,p⟩=>
 ⟨μ,S,ρ,eo,rp,p.bind.imp λx S1 μ1 H1 l1 r1 p1 v rv=>⟨μ1,S1,ρ,eo.later l1,r1,p1.bind.imp λy S2 μ2 H2 l2 r2 p2 u ru=>⟨μ2,S2,x,y,rv.later l2,ru,r2,p2.bind.imp λz S3 μ3 H3 l3 r3 p3 w rw=>c4t rw r3 p3⟩⟩⟩
end
end L3
end
section
set_option maxHeartbeats 1000000
namespace HT
open PySem PySem.Spec PyProof.Rows
theorem noFill_tuple_mul:fillsNumberSlot (.type "tuple") "mul" = pure false:=
 PySem.fillsNumberSlot_seq (id:="tuple.__mul__") (r:=some (.builtin "tuple.__rmul__")) F.slot_tuple_mul.lookup (by decide +kernel) F.slot_tuple_rmul.lookup (by decide +kernel)
theorem repeat_tuple:seqRepeat? (.type "tuple")=pure (some (.builtin "tuple.__mul__")):=by
 unfold seqRepeat?
 rw [PySem.seqSlot_of (T:="tuple") (name:="__mul__") (id:="tuple.__mul__") F.slot_tuple_mul.lookup (by decide +kernel),PySem.seqSlot_of (T:="tuple") (name:="__rmul__") (id:="tuple.__rmul__") F.slot_tuple_rmul.lookup (by decide +kernel)]
 rfl
theorem int_rmul_tuple (a:Int) (t:Tok) (l:Addr) (items:Array Value) (n:Nat) (dd:Option Addr) (sl:Array (Option Value)) :
  Meets (Builtin.«int.__rmul__» ⟨[.int a t,.ref l],[]⟩) (λ_ R s=>s.heap.get? l=some { cls:=.type "tuple",dict:=dd,data:=.seq items n,slots:=sl }/\R (.ok (.ret Value.notImplemented)) s):=
 .of_wp λprog w A R s h=>by obtain ⟨hp,g,d,tk,os⟩:=s;obtain ⟨hl,h⟩:=h;wp_walk;exact ⟨_,rfl,h⟩
theorem tuple_mul1 (l:Addr) (items:Array Value) (n:Nat) (dd:Option Addr) (sl:Array (Option Value)) (u:Tok) :
  Meets (Builtin.«tuple.__mul__» ⟨[.ref l,.int 1 u],[]⟩) (λ_ R s=>s.heap.get? l=some { cls:=.type "tuple",dict:=dd,data:=.seq items n,slots:=sl }/\R (.ok (.ret (.ref l))) s):=
 .of_wp λprog w A R s h=>by obtain ⟨hp,g,d,tk,os⟩:=s;obtain ⟨hl,h⟩:=h;wp_walk;exact ⟨_,rfl,h⟩
theorem a7o {k:Int} (h1:1<=k) (h2:k<2 ^ 63):¬ ((decide (k < -(2 ^ 63))||decide (k≥2 ^ 63))=true):=by
 simp only [Bool.or_eq_true,decide_eq_true_eq]
 omega
theorem tuple_mul2 (l:Addr) (items:Array Value) (n:Nat) (dd:Option Addr) (sl:Array (Option Value)) (k:Int) (u:Tok) (h0:¬ (items.isEmpty||k==1)=true) (h1:2<=k) (h2:k<2 ^ 63) (hsz:items.size * k.toNat<=sizeLine) :
  Meets (Builtin.«tuple.__mul__» ⟨[.ref l,.int k u],[]⟩) (λ_ R s=>s.heap.get? l=some { cls:=.type "tuple",dict:=dd,data:=.seq items n,slots:=sl }/\R (.ok (.ret (.ref s.heap.objs.size))) { s with heap:=s.heap.push { cls:=.type "tuple",data:=.seq ((List.replicate k.toNat items).foldl (·++·) #[]) } }):=
 .of_wp λprog w A R s h=>by
  obtain ⟨hp,g,d,tk,os⟩:=s;obtain ⟨hl,h⟩:=h
  have c1:=a7o (k:=k) (by omega) h2
  have hsl:(sizeLine:Nat)=2 ^ 24:=sizeLine_eq
  have ek:((k.toNat:Nat):Int)=k:=Int.toNat_of_nonneg (by omega)
  have em:(items.size:Int) * k=((items.size * k.toNat:Nat):Int):=by rw [Int.natCast_mul,ek]
  have c2:¬ (decide (k<=0)||items.isEmpty)=true:=by
   simp only [Bool.or_eq_true,decide_eq_true_eq] at h0 ⊢
   intro z
   rcases z with z | z
   ·omega
   ·exact h0 (.inl z)
  have c3:¬ ((items.size:Int) * k > (2 ^ 63-1) / 8):=by rw [em];omega
  have c4:¬ Builtin.Tuple.tupleTooMany ((items.size:Int) * k)=true:=by
   rw [em]
   simp only [Builtin.Tuple.tupleTooMany,decide_eq_true_eq]
   omega
  have hz:((List.replicate k.toNat items).foldl (·++·) #[]).size<=sizeLine:=by
   rw [AutoListH.size_joined,Nat.mul_comm];simpa using hsz
  wp_walk
  rw [if_neg c1]
  have ht:IsTup hp l items:=⟨_,hl,rfl,n,rfl⟩
  show wpAny _ _ (Builtin.Tuple.tupleItemsOf (.ref l) >>= _) _ _ _
  refine wpAny_bind (tupleItemsOf_ ht ?_)
  show wpAny _ _ (if (items.isEmpty||k==1)=true then _ else _) _ _ _
  rw [if_neg h0]
  show wpAny _ _ (if (decide (k<=0)||items.isEmpty)=true then _ else _) _ _ _
  rw [if_neg c2]
  show wpAny _ _ (if (items.size:Int) * k > (2 ^ 63-1) / 8 then _ else _) _ _ _
  rw [if_neg c3]
  show wpAny _ _ (if Builtin.Tuple.tupleTooMany ((items.size:Int) * k)=true then _ else _) _ _ _
  rw [if_neg c4]
  refine wpAny_bind (m:=Builtin.Tuple.tupleExact _) (wpAny_newObj_type ?_ hz)
  exact wpAny_pure ⟨_,rfl,h⟩
end HT
namespace L2
open PySem PySem.Spec PyProof.Rows
section
variable {X:Cx}
theorem b7y:OpR X (binaryOp .Mult) (λx y H Q=>∃ a k xs,x=.ref a/\y=.int k/\SqT X.K H a xs/\xs≠[]/\1<=k/\k<2 ^ 63/\xs.length * k.toNat<=sizeLine/\(k=1->Q (.ref a) H)/\(k≠1->∀ p,H p=none->Q (.ref p) (upd H p (.tup (List.replicate k.toNat xs).flatten)))):=by
 intro pins s σ H x y v u Q I rx ry h
 obtain ⟨a,k,xs,rfl,rfl,ha,hx,k1,k2,hz,q1,q2⟩:=h
 cases rx
 obtain ⟨t,rfl⟩:=ry
 obtain ⟨its,r1,p1,_⟩:=I.tuple ha
 obtain ⟨⟨cls,dd,data,sl⟩,ho,hc,n,hd⟩:=id p1
 simp only at hc hd
 subst hc hd
 have hl:=r1.length
 by_cases he:k=1
 ·subst he
  exact wpAny_binaryOp_repeat_ref (T:="tuple") (U:="int") (by decide) ⟨_,ho,rfl⟩ (λs'=>typeIs_int s' 1 t) HT.noFill_tuple_mul F.fills_int_mul F.slot_int_rmul HT.repeat_tuple F.slot_int_index.lookup
   (call_meets F.slot_int_rmul (typeIs_int s 1 t) F.entry_int_rmul (F.args_int_rmul_2 _ _) (HT.int_rmul_tuple 1 t a its.toArray n dd sl)
    ⟨ho,rfl,⟨_,ho,rfl⟩,call_meets F.slot_tuple_mul ⟨_,ho,rfl⟩ F.entry_tuple_mul (F.args_tuple_mul_2 _ _) (HT.tuple_mul1 a its.toArray n dd sl t) ⟨ho,.ref a,H,I,rfl,q1 rfl⟩⟩)
 ·have hne:its≠[]:=λz=>hx (r1.nil_iff.mp z)
  have h0:¬ (its.toArray.isEmpty||k==1)=true:=by
   simp only [Bool.or_eq_true,beq_iff_eq]
   rintro (z | z)
   ·exact hne (by simpa using z)
   ·exact he z
  refine wpAny_binaryOp_repeat_ref (T:="tuple") (U:="int") (by decide) ⟨_,ho,rfl⟩ (λs'=>typeIs_int s' k t) HT.noFill_tuple_mul F.fills_int_mul F.slot_int_rmul HT.repeat_tuple F.slot_int_index.lookup
   (call_meets F.slot_int_rmul (typeIs_int s k t) F.entry_int_rmul (F.args_int_rmul_2 _ _) (HT.int_rmul_tuple k t a its.toArray n dd sl)
    ⟨ho,rfl,⟨_,ho,rfl⟩,call_meets F.slot_tuple_mul ⟨_,ho,rfl⟩ F.entry_tuple_mul (F.args_tuple_mul_2 _ _) (HT.tuple_mul2 a its.toArray n dd sl k t h0 (by omega) k2 (by rw [List.size_toArray,<- hl];exact hz)) ⟨ho,?_⟩⟩)
  have f0:List.foldl (λx1 x2=>x1++x2) #[] (List.replicate k.toNat its.toArray)=(List.replicate k.toNat its).flatten.toArray:=by
   have:=V7 its k.toNat []
   rw [List.nil_append] at this
   exact this
  rw [f0]
  refine ⟨.ref s.heap.objs.size,_,I.laid (t':=s.toks) (o:=.tup (List.replicate k.toNat xs).flatten) (λb ob q=>Heap.get?_push_of_some _ q) (Nat.le_refl _) ?_,rfl,q2 he _ (I.hok.fresh (Nat.le_refl _))⟩
  exact ⟨by rw [a9f,Nat.mul_comm];exact hz,_,r1.rep k.toNat,TupN.new _ _⟩
end
end L2
end

section
set_option maxHeartbeats 1000000
namespace L3
open PySem PySem.Spec PyProof.Rows L2
noncomputable def lstOf (d:D):M (List D):=match d with
 | .lst ds=>ret ds
 | .ref n=>λS=>match S[n]? with
  | some (.lst ds)=>.ok ds S
  | _=>.bad
 | _=>bad
noncomputable def a1d (d:D):M (List D):=match d with
 | .tup ds=>ret ds
 | .scr ds=>ret ds
 | d=>lstOf d
section
variable {K:PySem.W.Frag} {cl:Nat->Addr} {xe:Addr->Hp->Prop} {μ:Mp} {H:Hp} {S:Sto} {α:Type}
theorem u0 {d:D} {v:V} {G:List D->Sto->Mp->Hp->Prop} (rd:RD K μ H d v) (rp:Rep K cl μ S H) (p:Post K cl xe μ H (lstOf d S) G):∃ a xs ds,v=.ref a/\H a=some (.lst xs)/\RDs K μ H ds xs/\lstOf d S=.ok ds S:=by
 cases rd with
 | lst h r=>exact ⟨_,_,_,rfl,h.1,r,rfl⟩
 | ref e=>
  rename_i n a
  simp only [lstOf] at p
  cases q:S[n]? with
  | none=>rw [q] at p;exact p.elim
  | some o=>
   cases o with
   | lst ds=>
    obtain ⟨xs,h1,h2⟩:=rp.ats n _ a q e
    exact ⟨a,xs,ds,rfl,h1,h2,by simp only [lstOf,q]⟩
   | dct _=>rw [q] at p;exact p.elim
   | exc _ _=>rw [q] at p;exact p.elim
 | _=>exact p.elim
theorem b2d {d:D} {v:V} {G:List D->Sto->Mp->Hp->Prop} (rd:RD K μ H d v) (rp:Rep K cl μ S H) (p:Post K cl xe μ H (a1d d S) G):∃ a xs ds,v=.ref a/\(SqL K H a xs\/SqT K H a xs)/\RDs K μ H ds xs/\a1d d S=.ok ds S:=by
 cases rd with
 | tup h r=>exact ⟨_,_,_,rfl,.inr h.sq,r,rfl⟩
 | scr h r=>exact ⟨_,_,_,rfl,.inl h.sq,r,rfl⟩
 | lst h r=>exact ⟨_,_,_,rfl,.inl h.sq,r,rfl⟩
 | ref e=>
  obtain ⟨a,xs,ds,h1,h2,h3,h4⟩:=u0 (.ref e) rp p
  exact ⟨a,xs,ds,h1,.inl (.inl (.inl h2)),h3,h4⟩
 | _=>exact p.elim
theorem Post.ok_bind {β:Type} {m:M α} {k:α->M β} {a:α} {G:β->Sto->Mp->Hp->Prop} (e:m S=.ok a S) (p:Post K cl xe μ H (L3.bind m k S) G):Post K cl xe μ H (k a S) G:=by
 unfold L3.bind at p;rw [e] at p;exact p
theorem M6 {ds:List D} {xs:List V} {p:Addr} (rp:Rep K cl μ S H) (r:RDs K μ H ds xs) (hp:H p=none):Lat μ H μ (upd H p (.tup xs))/\Rep K cl μ S (upd H p (.tup xs))/\RD K μ (upd H p (.tup xs)) (.tup ds) (.ref p):=
 ⟨Lat.laid hp,rp.laid hp,.tup (.inl ⟨.inl d4,rp.notin hp,rp.notrs hp⟩) (r.later (Lat.laid hp))⟩
theorem T0 {ds:List D} {xs:List V} {p:Addr} (rp:Rep K cl μ S H) (r:RDs K μ H ds xs) (hp:H p=none):Lat μ H μ (upd H p (.lst xs))/\Rep K cl μ S (upd H p (.lst xs))/\RD K μ (upd H p (.lst xs)) (.lst ds) (.ref p):=
 ⟨Lat.laid hp,rp.laid hp,.lst ⟨d4,rp.notin hp,rp.notrs hp⟩ (r.later (Lat.laid hp))⟩
theorem a94 {ds:List D} {xs:List V} {p:Addr} (rp:Rep K cl μ S H) (r:RDs K μ H ds xs) (hp:H p=none):Lat μ H (μ.push p) (upd H p (.lst xs))/\Rep K cl (μ.push p) (S++[.lst ds]) (upd H p (.lst xs))/\RD K (μ.push p) (upd H p (.lst xs)) (.ref S.length) (.ref p):=by
 have k:∀ a u,H a=some u->upd H p (.lst xs) a=some u:=λa u e=>by rw [b9 (d8 e hp)];exact e
 have l:=Lat.pushed (μ:=μ) hp k
 refine ⟨l,rp.pushed hp k ⟨xs,d4,r.later l⟩,.ref ?_⟩
 show (μ.pl++[p])[S.length]?=some p
 rw [<- rp.len];simp
theorem Post.guard {c:Prop} [Decidable c] {a:α} {G:α->Sto->Mp->Hp->Prop} (p:Post K cl xe μ H ((if c then L3.ret a else L3.bad) S) G):c/\∀ μ' H',Lat μ H μ' H'->Rep K cl μ' S H'->G a S μ' H':=by
 by_cases hc:c
 ·rw [if_pos hc] at p;exact ⟨hc,p⟩
 ·rw [if_neg hc] at p;exact p.elim
end
noncomputable def k9 {α β:Type} (f:α->Option β):List α->Option (List β)
 | []=>some []
 | x :: xs=>match f x,k9 f xs with
  | some y,some ys=>some (y :: ys)
  | _,_=>none
noncomputable def m3:Nat->Sto->D->Option PyData
 | 0,_,_=>none
 | n+1,S,d=>match d with
  | .non=>some .none
  | .bl b=>some (.bool b)
  | .int i=>some (.int i)
  | .str x=>some (.str x)
  | .tup ds=>(k9 (m3 n S) ds).map .tuple
  | .lst ds=>(k9 (m3 n S) ds).map .list
  | .scr ds=>(k9 (m3 n S) ds).map .list
  | .ref k=>match S[k]? with
   | some (.lst ds)=>(k9 (m3 n S) ds).map .list
   | _=>none
theorem a43 {K:PySem.W.Frag} {μ:Mp} {H:Hp} {S:Sto} {n:Nat} (ih:∀ {d:D} {v:V} {q:PyData},m3 n S d=some q->RD K μ H d v->DAt K H v q):∀ {ds:List D} {vs:List V} {qs:List PyData},k9 (m3 n S) ds=some qs->RDs K μ H ds vs->DAll K H vs qs
 | [],_,qs,e,r=>by cases r;cases e;exact .nil
 | d :: ds,_,qs,e,r=>by
  cases r with
  | cons h t=>
   simp only [k9] at e
   cases e1:m3 n S d with
   | none=>rw [e1] at e;cases e
   | some q=>
    cases e2:k9 (m3 n S) ds with
    | none=>rw [e1,e2] at e;cases e
    | some qs'=>
     rw [e1,e2] at e;cases e
     exact .cons (ih e1 h) (a43 ih e2 t)
theorem D0 {K:PySem.W.Frag} {cl:Nat->Addr} {μ:Mp} {H:Hp} {S:Sto} (rp:Rep K cl μ S H):∀ (n:Nat) {d:D} {v:V} {q:PyData},m3 n S d=some q->RD K μ H d v->DAt K H v q
 | 0,_,_,_,e,_=>by cases e
 | n+1,d,v,q,e,r=>by
  have all:∀ {ds:List D} {vs:List V} {qs:List PyData},k9 (m3 n S) ds=some qs->RDs K μ H ds vs->DAll K H vs qs:=λe r=>a43 (λe r=>D0 rp n e r) e r
  have um:∀ {ds:List D} {C:List PyData->PyData},(k9 (m3 n S) ds).map C=some q->∃ qs,k9 (m3 n S) ds=some qs/\q=C qs:=λ{ds C} e=>by
   cases e1:k9 (m3 n S) ds with
   | none=>rw [e1] at e;cases e
   | some qs=>rw [e1] at e;cases e;exact ⟨qs,rfl,rfl⟩
  cases r with
  | non=>cases e;exact .non
  | bl b=>cases e;exact .bl b
  | int i=>cases e;exact .int i
  | str x=>cases e;exact .str x
  | tup h t=>obtain ⟨qs,e1,rfl⟩:=um e;exact .tup h.sq (all e1 t)
  | lst h t=>obtain ⟨qs,e1,rfl⟩:=um e;exact .lst h.sq (all e1 t)
  | scr h t=>obtain ⟨qs,e1,rfl⟩:=um e;exact .lst h.sq (all e1 t)
  | ref h=>
   rename_i k a
   simp only [m3] at e
   cases q1:S[k]? with
   | none=>rw [q1] at e;cases e
   | some o=>
    rw [q1] at e
    cases o with
    | lst ds=>
     obtain ⟨qs,e1,rfl⟩:=um e
     obtain ⟨xs,h1,h2⟩:=rp.ats k _ a q1 h
     exact .lst (.inl (.inl h1)) (all e1 h2)
    | dct _=>cases e
    | exc _ _=>cases e
noncomputable def f9 (x y:D):M D:=match x,y with
 | .int i,.int j=>ret (.int (i+j))
 | .str a,.str b=>if a.length+b.length<=sizeLine then ret (.str (a++b)) else bad
 | .tup xs,.tup ys=>if xs.length+ys.length<=sizeLine then ret (.tup (xs++ys)) else bad
 | x,y=>bind (lstOf x) λxs=>bind (lstOf y) λys=>if xs.length+ys.length<=sizeLine then ret (.lst (xs++ys)) else bad
noncomputable def a08 (x y:D):M D:=match x,y with
 | .int i,.int j=>ret (.int (i-j))
 | _,_=>bad
instance (i j:Int):Decidable (CMul i j):=by unfold CMul;infer_instance
instance (i j:Int):Decidable (b32 i j):=by unfold b32;infer_instance
instance (i j:Int):Decidable (b92 i j):=by unfold b92;infer_instance
noncomputable def Z5 (x y:D):M D:=match x,y with
 | .int i,.int j=>if 0<j then ret (.int (i % j)) else bad
 | _,_=>bad
noncomputable def G1 (x y:D):M D:=match x,y with
 | .int i,.int j=>if b32 i j then ret (.int (i / j)) else bad
 | _,_=>bad
noncomputable def c0w (x y:D):M D:=match x,y with
 | .int i,.int j=>if b92 i j then ret (.int (i ^ j.toNat)) else bad
 | _,_=>bad
noncomputable def C7 (x y:D):M D:=match x,y with
 | .int i,.int j=>if CMul i j then ret (.int (i * j)) else bad
 | .tup ds,.int k=>if (ds≠[]/\1<=k/\k<2 ^ 63)/\ds.length * k.toNat<=sizeLine then ret (.tup (List.replicate k.toNat ds).flatten) else bad
 | x,.int k=>bind (lstOf x) λxs=>if (-(2 ^ 63)<=k/\k<2 ^ 63)/\xs.length * k.toNat<=sizeLine then ret (.lst (List.replicate k.toNat xs).flatten) else bad
 | _,_=>bad
section
variable {X:Cx} {cl:Nat->Addr} {xe:Addr->Hp->Prop}
theorem b41:OpR X (binaryOp .Add) (λx y H Q=>∃ a b ys,x=.ref a/\y=.ref b/\SqT X.K H a []/\SqT X.K H b ys/\Q (.ref b) H):=by
 intro pins s σ H x y v u Q I rx ry h
 obtain ⟨a,b,ys,rfl,rfl,ha,hb,q⟩:=h
 cases rx
 cases ry
 obtain ⟨its,r1,p1,_⟩:=I.tuple ha
 obtain ⟨its2,r2,p2,_⟩:=I.tuple hb
 cases r1
 obtain ⟨⟨cls,dd,data,sl⟩,ho,hc,n,hd⟩:=id p1
 obtain ⟨⟨cls2,dd2,data2,sl2⟩,ho2,hc2,n2,hd2⟩:=id p2
 simp only at hc hd hc2 hd2
 subst hc hd hc2 hd2
 exact concat_meets ⟨_,ho,rfl⟩ ⟨_,ho2,rfl⟩ noFill_tuple_add seq_tuple_add PySem.F.slot_tuple_add PySem.F.entry_tuple_add (PySem.F.args_tuple_add_2 _ _)
   (tuple_addW0 a b #[] its2.toArray n n2 dd dd2 sl sl2 rfl) ⟨ho,ho2,⟨.ref b,H,I,rfl,q⟩⟩
theorem c92:OpR X (binaryOp .Add) (rP2 X.K cl xe f9):=by
 intro pins s σ H x y v u Q I rx ry ⟨μ,S,d,e,rd,re,rp,p⟩
 have L:Post X.K cl xe μ H (bind (lstOf d) (λxs=>bind (lstOf e) λys=>if xs.length+ys.length<=sizeLine then ret (.lst (xs++ys)) else bad) S) (λr _ μ' H'=>∀ v,RD X.K μ' H' r v->Q v H')->wpAny (model X.prog X.w) X.A (binaryOp .Add v u) (EP X pins σ Q) X.xe s:=λp=>by
  obtain ⟨a,xs,ds,rfl,h1,r1,e1⟩:=u0 rd rp p.bind
  have p:=p.ok_bind e1
  obtain ⟨b,ys,es,rfl,h2,r2,e2⟩:=u0 re rp p.bind
  obtain ⟨hl,p⟩:=(p.ok_bind e2).guard
  refine c4g pins s σ H _ _ v u Q I rx ry ⟨a,b,xs,ys,rfl,rfl,h1,h2,by rw [<- r1.length,<- r2.length];exact hl,λz hz=>?_⟩
  obtain ⟨l,rp2,rd2⟩:=T0 rp (r1.append r2) hz
  exact p μ _ l rp2 _ rd2
 cases d <;> cases e <;> try (exact L p)
 case int.int i j=>cases rd;cases re;exact c3v pins s σ H _ _ v u Q I rx ry ⟨i,j,rfl,rfl,p μ H (Lat.refl _ _) rp _ (.int _)⟩
 case str.str i j=>
  cases rd;cases re
  obtain ⟨hl,p⟩:=Post.guard p
  exact a6t pins s σ H _ _ v u Q I rx ry ⟨i,j,rfl,rfl,hl,p μ H (Lat.refl _ _) rp _ (.str _)⟩
 case tup.tup ds es=>
  obtain ⟨hl,p⟩:=Post.guard p
  cases rd with
  | tup h1 r1=>
   cases re with
   | tup h2 r2=>
    rename_i a xs b ys
    cases ds with
    | nil=>
     cases r1
     exact b41 pins s σ H _ _ v u Q I rx ry ⟨a,b,ys,rfl,rfl,h1.sq,h2.sq,p μ H (Lat.refl _ _) rp _ (.tup h2 r2)⟩
    | cons d ds=>
     cases r1 with
     | cons q1 q2=>
      rename_i v1 vs1
      refine b8k pins s σ H _ _ v u Q I rx ry ⟨a,b,_,ys,rfl,rfl,h1.sq,h2.sq,by simp,by rw [<- r2.length];simpa [q2.length] using hl,λz=>?_,λz w hw=>?_⟩
      ·subst z
       cases r2
       rw [List.append_nil] at p
       exact p μ H (Lat.refl _ _) rp _ (.tup h1 (.cons q1 q2))
      ·obtain ⟨l,rp2,rd2⟩:=M6 rp ((RDs.cons q1 q2).append r2) hw
       exact p μ _ l rp2 _ rd2
theorem c6z:OpR X (binaryOp .Sub) (rP2 X.K cl xe a08):=by
 intro pins s σ H x y v u Q I rx ry ⟨μ,S,d,e,rd,re,rp,p⟩
 cases d <;> cases e <;> try (exact False.elim p)
 case int.int i j=>cases rd;cases re;exact c3w pins s σ H _ _ v u Q I rx ry ⟨i,j,rfl,rfl,p μ H (Lat.refl _ _) rp _ (.int _)⟩
theorem c71:OpR X (binaryOp .Mod) (rP2 X.K cl xe Z5):=by
 intro pins s σ H x y v u Q I rx ry ⟨μ,S,d,e,rd,re,rp,p⟩
 cases d <;> cases e <;> try (exact False.elim p)
 case int.int i j=>
  cases rd;cases re
  obtain ⟨hl,p⟩:=Post.guard p
  exact c5s pins s σ H _ _ v u Q I rx ry ⟨i,j,rfl,rfl,hl,p μ H (Lat.refl _ _) rp _ (.int _)⟩
theorem c2g:OpR X (binaryOp .FloorDiv) (rP2 X.K cl xe G1):=by
 intro pins s σ H x y v u Q I rx ry ⟨μ,S,d,e,rd,re,rp,p⟩
 cases d <;> cases e <;> try (exact False.elim p)
 case int.int i j=>
  cases rd;cases re
  obtain ⟨hl,p⟩:=Post.guard p
  exact b6z pins s σ H _ _ v u Q I rx ry ⟨i,j,rfl,rfl,hl,p μ H (Lat.refl _ _) rp _ (.int _)⟩
theorem c9v:OpR X (binaryOp .Pow) (rP2 X.K cl xe c0w):=by
 intro pins s σ H x y v u Q I rx ry ⟨μ,S,d,e,rd,re,rp,p⟩
 cases d <;> cases e <;> try (exact False.elim p)
 case int.int i j=>
  cases rd;cases re
  obtain ⟨hl,p⟩:=Post.guard p
  exact c2z pins s σ H _ _ v u Q I rx ry ⟨i,j,rfl,rfl,hl,p μ H (Lat.refl _ _) rp _ (.int _)⟩
theorem c9i:OpR X (binaryOp .Mult) (rP2 X.K cl xe C7):=by
 intro pins s σ H x y v u Q I rx ry ⟨μ,S,d,e,rd,re,rp,p⟩
 have L:∀ k:Int,e=.int k->Post X.K cl xe μ H (bind (lstOf d) (λxs=>if (-(2 ^ 63)<=k/\k<2 ^ 63)/\xs.length * k.toNat<=sizeLine then ret (.lst (List.replicate k.toNat xs).flatten) else bad) S) (λr _ μ' H'=>∀ v,RD X.K μ' H' r v->Q v H')->wpAny (model X.prog X.w) X.A (binaryOp .Mult v u) (EP X pins σ Q) X.xe s:=λk he q=>by
  clear p
  subst he
  cases re
  obtain ⟨a,xs,ds,rfl,h1,r1,e1⟩:=u0 rd rp q.bind
  obtain ⟨⟨⟨k1,k2⟩,hl⟩,p⟩:=(q.ok_bind e1).guard
  refine c6b pins s σ H _ _ v u Q I rx ry ⟨a,k,xs,rfl,rfl,h1,k1,k2,by rw [<- r1.length];exact hl,λz hz=>?_⟩
  obtain ⟨l,rp2,rd2⟩:=T0 rp (r1.rep k.toNat) hz
  exact p μ _ l rp2 _ rd2
 cases d <;> cases e <;> try (exact False.elim p)
 case int.int i j=>
  cases rd;cases re
  obtain ⟨hl,p⟩:=Post.guard p
  exact c3h pins s σ H _ _ v u Q I rx ry ⟨i,j,rfl,rfl,hl,p μ H (Lat.refl _ _) rp _ (.int _)⟩
 case tup.int ds k=>
  cases re
  obtain ⟨⟨⟨k0,k1,k2⟩,hl⟩,p⟩:=Post.guard p
  cases rd with
  | tup h1 r1=>
   rename_i a xs
   have hx:xs≠[]:=λz=>by subst z;cases r1;exact k0 rfl
   refine b7y pins s σ H _ _ v u Q I rx ry ⟨a,k,xs,rfl,rfl,h1.sq,hx,k1,k2,by rw [<- r1.length];exact hl,λz=>?_,λz w hw=>?_⟩
   ·subst z
    have e:(List.replicate (1:Int).toNat ds).flatten=ds:=by simp
    rw [e] at p
    exact p μ H (Lat.refl _ _) rp _ (.tup h1 r1)
   ·obtain ⟨l,rp2,rd2⟩:=M6 rp (r1.rep k.toNat) hw
    exact p μ _ l rp2 _ rd2
 all_goals exact L _ rfl p
end
noncomputable def eqP (neg:Bool) (x y:D):M D:=λS=>match m3 64 S x,m3 64 S y with
 | some p,some q=>(if p.canLay0=true/\q.canLay0=true/\min p.depth q.depth<=60 then ret (.bl (if neg then !PyData.eqv p q else PyData.eqv p q)) else bad) S
 | _,_=>.bad
noncomputable def eqD (neg:Bool) (x y:D):M D:=match x,y with
 | .str a,.str b=>ret (.bl (if neg then !decide (a=b) else decide (a=b)))
 | .int a,.int b=>ret (.bl (if neg then !decide (a=b) else decide (a=b)))
 | x,y=>eqP neg x y
noncomputable def b43 (f:Int->Int->Bool) (x y:D):M D:=match x,y with
 | .int i,.int j=>ret (.bl (f i j))
 | _,_=>bad
noncomputable def b08 (neg:Bool) (d:PyData) (ps:List PyData):M D:=if d.canLay0=true/\PyData.canLayAll0 ps=true/\min (PyData.depthAll ps) d.depth<=60 then ret (.bl (if neg then !(ps.any λy=>PyData.eqv y d) else ps.any λy=>PyData.eqv y d)) else bad
noncomputable def inD (neg:Bool) (x y:D):M D:=λS=>match m3 64 S x,m3 64 S y with
 | some d,some (.list ps)=>b08 neg d ps S
 | some d,some (.tuple ps)=>b08 neg d ps S
 | _,_=>.bad
noncomputable def isD (neg:Bool) (x y:D):M D:=match y with
 | .non=>ret (.bl (match x with
  | .non=>!neg
  | _=>neg))
 | .bl b=>ret (.bl (match x with
  | .bl c=>if neg then !(c==b) else c==b
  | _=>neg))
 | _=>bad
section
variable {X:Cx} {cl:Nat->Addr} {xe:Addr->Hp->Prop}
theorem d1w (hu:X.A.units+64<cLine):OpR X (compareOp .Eq) (rP2 X.K cl xe (eqD false)):=by
 intro pins s σ H x y v u Q I rx ry ⟨μ,S,d,e,rd,re,rp,p⟩
 have gen:Post X.K cl xe μ H (eqP false d e S) (λr _ μ' H'=>∀ v,RD X.K μ' H' r v->Q v H')->wpAny (model X.prog X.w) X.A (compareOp .Eq v u) (EP X pins σ Q) X.xe s:=λp=>by
  simp only [eqP] at p
  cases e1:m3 64 S d with
  | none=>rw [e1] at p;exact p.elim
  | some a=>
   cases e2:m3 64 S e with
   | none=>rw [e1,e2] at p;exact p.elim
   | some b=>
    rw [e1,e2] at p
    obtain ⟨⟨c1,c2,c3⟩,p⟩:=Post.guard p
    exact c2p hu pins s σ H _ _ v u Q I rx ry ⟨a,b,D0 rp 64 e1 rd,D0 rp 64 e2 re,c1,c2,c3,p μ H (Lat.refl _ _) rp _ (.bl _)⟩
 cases d <;> cases e <;> try (exact gen p)
 case str.str a b=>
  cases rd;cases re
  exact c8h pins s σ H _ _ v u Q I rx ry ⟨rfl,by rw [show decide (V.str a=V.str b)=decide (a=b) by rw [Bool.eq_iff_iff];simp];exact p μ H (Lat.refl _ _) rp _ (.bl _)⟩
theorem d2n (hu:X.A.units+64<cLine):OpR X (compareOp .NotEq) (rP2 X.K cl xe (eqD true)):=by
 intro pins s σ H x y v u Q I rx ry ⟨μ,S,d,e,rd,re,rp,p⟩
 have gen:Post X.K cl xe μ H (eqP true d e S) (λr _ μ' H'=>∀ v,RD X.K μ' H' r v->Q v H')->wpAny (model X.prog X.w) X.A (compareOp .NotEq v u) (EP X pins σ Q) X.xe s:=λp=>by
  simp only [eqP] at p
  cases e1:m3 64 S d with
  | none=>rw [e1] at p;exact p.elim
  | some a=>
   cases e2:m3 64 S e with
   | none=>rw [e1,e2] at p;exact p.elim
   | some b=>
    rw [e1,e2] at p
    obtain ⟨⟨c1,c2,c3⟩,p⟩:=Post.guard p
    exact c6c hu pins s σ H _ _ v u Q I rx ry ⟨a,b,D0 rp 64 e1 rd,D0 rp 64 e2 re,c1,c2,c3,p μ H (Lat.refl _ _) rp _ (.bl _)⟩
 cases d <;> cases e <;> try (exact gen p)
 case str.str a b=>
  cases rd;cases re
  exact d0t pins s σ H _ _ v u Q I rx ry ⟨rfl,by rw [show decide (V.str a=V.str b)=decide (a=b) by rw [Bool.eq_iff_iff];simp];exact p μ H (Lat.refl _ _) rp _ (.bl _)⟩
theorem a84 {op:CmpOp} {f:Int->Int->Bool} (ho:OpR X (compareOp op) (rI0 λi j=>.bl (f i j))):OpR X (compareOp op) (rP2 X.K cl xe (b43 f)):=by
 intro pins s σ H x y v u Q I rx ry ⟨μ,S,d,e,rd,re,rp,p⟩
 cases d <;> cases e <;> try (exact False.elim p)
 case int.int i j=>cases rd;cases re;exact ho pins s σ H _ _ v u Q I rx ry ⟨i,j,rfl,rfl,p μ H (Lat.refl _ _) rp _ (.bl _)⟩
theorem a1y {neg:Bool} (hu:X.A.units+80<cLine) {pins:List (Addr×Obj)} {s:Shared} {σ:L2.St} {H:Hp} {x y:V} {v u:Value} {Q:VK} {d:PyData} {ps:List PyData} (I:Inv X pins σ H s) (rx:RelV x v) (ry:RelV y u)
  (hd:DAt X.K H x d) (hy:DAt X.K H y (.list ps)\/DAt X.K H y (.tuple ps)) (c:d.canLay0=true/\PyData.canLayAll0 ps=true/\min (PyData.depthAll ps) d.depth<=60)
  (q:Q (.bl (if neg then !(ps.any λy=>PyData.eqv y d) else ps.any λy=>PyData.eqv y d)) H):wpAny (model X.prog X.w) X.A (compareOp (if neg then .NotIn else .In) v u) (EP X pins σ Q) X.xe s:=by
 obtain ⟨c1,c2,c3⟩:=c
 obtain ⟨as,r1⟩:=hd.reads I rx
 have hu':X.A.units+1+min (PyData.depthAll ps) d.depth<cLine:=by omega
 rcases hy with hy | hy
 ·obtain ⟨bs,r2⟩:=hy.reads I ry
  cases neg with
  | false=>exact SeqAt.in_list_reads r2 r1 c2 c1 hu' ⟨.bl _,H,I,rfl,q⟩
  | true=>exact SeqAt.notIn_list_reads r2 r1 c2 c1 hu' ⟨.bl _,H,I,rfl,q⟩
 ·obtain ⟨bs,r2⟩:=hy.reads I ry
  cases neg with
  | false=>exact SeqAt.in_tuple_reads r2 r1 c2 c1 hu' ⟨.bl _,H,I,rfl,q⟩
  | true=>exact SeqAt.notIn_tuple_reads r2 r1 c2 c1 hu' ⟨.bl _,H,I,rfl,q⟩
theorem c7g (neg:Bool) (hu:X.A.units+80<cLine):OpR X (compareOp (if neg then .NotIn else .In)) (rP2 X.K cl xe (inD neg)):=by
 intro pins s σ H x y v u Q I rx ry ⟨μ,S,d,e,rd,re,rp,p⟩
 simp only [inD] at p
 cases e1:m3 64 S d with
 | none=>rw [e1] at p;exact p.elim
 | some a=>
  cases e2:m3 64 S e with
  | none=>rw [e1,e2] at p;exact p.elim
  | some b=>
   rw [e1,e2] at p
   have ha:=D0 rp 64 e1 rd
   have hb:=D0 rp 64 e2 re
   cases b with
   | list ps=>obtain ⟨c,p⟩:=Post.guard p;exact a1y hu I rx ry ha (.inl hb) c (p μ H (Lat.refl _ _) rp _ (.bl _))
   | tuple ps=>obtain ⟨c,p⟩:=Post.guard p;exact a1y hu I rx ry ha (.inr hb) c (p μ H (Lat.refl _ _) rp _ (.bl _))
   | _=>exact p.elim
theorem c6q (neg:Bool):OpR X (compareOp (if neg then .IsNot else .Is)) (rP2 X.K cl xe (isD neg)):=by
 intro pins s σ H x y v u Q I rx ry ⟨μ,S,d,e,rd,re,rp,p⟩
 have fin:∀ b:Bool,(∀ μ' H',Lat μ H μ' H'->Rep X.K cl μ' S H'->∀ v,RD X.K μ' H' (.bl b) v->Q v H')->∀ c,c=b->EP X pins σ Q (.bool c) s:=λb p c e=>⟨.bl b,H,I,by rw [e];rfl,p μ H (Lat.refl _ _) rp _ (.bl _)⟩
 cases re <;> try (exact False.elim p)
 case non=>
  cases ry
  cases neg with
  | false=>
   refine is_none_gen (fin _ p _ ?_)
   cases rd <;> first
    | (cases rx;rfl)
    | (obtain ⟨t,rfl⟩:=rx;rfl)
  | true=>
   refine isnot_none_gen (fin _ p _ ?_)
   cases rd <;> first
    | (cases rx;rfl)
    | (obtain ⟨t,rfl⟩:=rx;rfl)
 case bl b=>
  cases ry
  cases neg with
  | false=>
   refine wpAny_is_plain ?_ (fin _ p _ ?_)
   ·cases rd <;> first
    | (cases rx;rfl)
    | (obtain ⟨t,rfl⟩:=rx;rfl)
   ·cases rd <;> first
    | (cases rx;rfl)
    | (obtain ⟨t,rfl⟩:=rx;rfl)
    | (cases rx;(rename_i c;cases c <;> cases b <;> rfl))
  | true=>
   refine wpAny_isNot_plain ?_ (fin _ p _ ?_)
   ·cases rd <;> first
    | (cases rx;rfl)
    | (obtain ⟨t,rfl⟩:=rx;rfl)
   ·cases rd <;> first
    | (cases rx;rfl)
    | (obtain ⟨t,rfl⟩:=rx;rfl)
    | (cases rx;(rename_i c;cases c <;> cases b <;> rfl))
end
noncomputable def D1:D->Option Key
 | .int i=>some (.inl i)
 | .str x=>some (.inr x)
 | _=>none
noncomputable def X3 {κ:Type} [DecidableEq κ] (kvs:List (κ×D)) (k:κ):Option D:=(kvs.find? λkv=>decide (kv.1=k)).map (·.2)
noncomputable def b0y {κ:Type} [DecidableEq κ] (kvs:List (κ×D)) (k:κ) (v:D):List (κ×D):=if kvs.any (λkv=>decide (kv.1=k)) then kvs.map (λkv=>if kv.1=k then (kv.1,v) else kv) else kvs++[(k,v)]
noncomputable def a3l {α:Type}:Option α->M α
 | some a=>ret a
 | none=>bad
noncomputable def ixD (x y:D):M D:=match x with
 | .ref n=>λS=>match S[n]? with
  | some (.lst ds)=>(match y with
   | .int i=>a3l (atI ds i)
   | _=>bad) S
  | some (.dct kvs)=>a3l ((D1 y).bind (X3 kvs)) S
  | _=>.bad
 | x=>match y with
  | .int i=>bind (a1d x) λds=>a3l (atI ds i)
  | _=>bad
theorem c4x {K:PySem.W.Frag} {μ:Mp} {H:Hp} {ds:List D} {xs:List V} {i:Int} {d:D} (r:RDs K μ H ds xs) (e:atI ds i=some d):∃ v,atI xs i=some v/\RD K μ H d v:=by
 unfold atI at e ⊢
 rw [<- r.length]
 cases q:ixN ds.length i with
 | none=>rw [q] at e;cases e
 | some j=>rw [q] at e;exact r.get e
theorem a87 {K:PySem.W.Frag} {cl:Nat->Addr} {xe:Addr->Hp->Prop} {μ:Mp} {H:Hp} {S:Sto} {α:Type} {o:Option α} {G:α->Sto->Mp->Hp->Prop} (p:Post K cl xe μ H (a3l o S) G):∃ a,o=some a/\∀ μ' H',Lat μ H μ' H'->Rep K cl μ' S H'->G a S μ' H':=by
 cases o with
 | none=>exact p.elim
 | some a=>exact ⟨a,rfl,p⟩
theorem Y1 {K:PySem.W.Frag} {μ:Mp} {H:Hp} {k:Key} {d:D}:∀ {kvs:List (Key×D)} {ks:List (Key×V)},KvsAt K μ H kvs ks->X3 kvs k=some d->∃ v,N4 ks k=some v/\RD K μ H d v
 | _,_,.nil,e=>by simp [X3] at e
 | p :: r,q :: r',.cons ⟨h1,h2⟩ t,e=>by
  unfold X3 at e
  rw [List.find?_cons] at e
  by_cases hk:p.1=k
  ·simp only [hk,decide_true] at e
   cases e
   exact ⟨q.2,R4 (h1▸hk),h2⟩
  ·simp only [hk,decide_false] at e
   obtain ⟨v,e1,e2⟩:=Y1 (k:=k) (d:=d) t e
   exact ⟨v,by rw [S8 (h1▸hk)];exact e1,e2⟩
theorem K3 {K:PySem.W.Frag} {μ:Mp} {H:Hp} {y:D} {v:V} {k:Key} (r:RD K μ H y v) (e:D1 y=some k):v=kV k:=by
 cases r <;> simp only [D1] at e <;> first | (cases e;rfl) | cases e
section
variable {X:Cx} {cl:Nat->Addr} {xe:Addr->Hp->Prop}
theorem b93 (hu:X.A.units+1<cLine):IxR X (λx y H Q=>∃ a v,x=.ref a/\DGet H a y (some v)/\Q v H):=by
 intro value slice pins s σ H x y v u Q I rx ry h hs
 obtain ⟨a,w,rfl,g,q⟩:=h
 cases rx
 have hT:=a4m I g
 have h₂:wpAny (model X.prog X.w) X.A (getItem (.ref a) u) (EP X pins σ Q) X.xe s:=a96 hu I g ry λw' s3 I3 rw'=>⟨w,H,I3,rw',q⟩
 unfold subscriptTail
 refine wpAny_bind ?_
 rw [getitemInPython_of_ne hT.not_modules]
 refine wpAny_bind (wpAny_specialOf hT PySem.F.slot_dict_getitem.lookup ?_)
 have fin:wpAny (model X.prog X.w) X.A (subscripted slice false (.ref a) u) (λr s₃=>wpAny (model X.prog X.w) X.A (letTemporaryGo value (.ref a) r >>= λ_=>pure r) (EP X pins σ Q) X.xe s₃) X.xe s:=by
  rw [hs]
  exact wpAny_operating (wpAny_mono h₂ (λr s₃ h₃=>wpAny_bind (wpAny_letTemporaryGo (wpAny_pure h₃))) λ_ _ x=>x)
 first
  | exact wpAny_pure (wpAny_bind fin)
  | exact wpAny_bind (wpAny_pure (wpAny_bind fin))
  | exact wpAny_bind fin
theorem d2l (hu:X.A.units+1<cLine):IxR X (rP2 X.K cl xe ixD):=by
 intro value slice pins s σ H x y v u Q I rx ry ⟨μ,S,d,e,rd,re,rp,p⟩ hs
 have sq:∀ {a:Addr} {xs:List V} {ds:List D} {i:Int},(SqL X.K H a xs\/SqT X.K H a xs)->RDs X.K μ H ds xs->x=.ref a->e=.int i->Post X.K cl xe μ H (a3l (atI ds i) S) (λr _ μ' H'=>∀ v,RD X.K μ' H' r v->Q v H') ->
   wpAny (model X.prog X.w) X.A (subscriptTail value slice v u) (EP X pins σ Q) X.xe s:=λ{a xs ds i} hq r hx he q=>by
  clear p
  subst hx he
  cases re
  obtain ⟨z,e1,q⟩:=a87 q
  obtain ⟨w,e2,rw'⟩:=c4x r e1
  rcases hq with hq | hq
  ·exact b68 value slice pins s σ H _ _ v u Q I rx ry ⟨a,xs,i,w,rfl,rfl,hq,e2,q μ H (Lat.refl _ _) rp _ rw'⟩ hs
  ·exact c3b value slice pins s σ H _ _ v u Q I rx ry ⟨a,xs,i,w,rfl,rfl,hq,e2,q μ H (Lat.refl _ _) rp _ rw'⟩ hs
 cases rd with
 | tup h r=>
  cases e <;> first | exact False.elim p | exact sq (.inr h.sq) r rfl rfl p
 | lst h r=>
  cases e <;> first | exact False.elim p | exact sq (.inl h.sq) r rfl rfl p
 | scr h r=>
  cases e <;> first | exact False.elim p | exact sq (.inl h.sq) r rfl rfl p
 | ref h=>
  rename_i n a
  simp only [ixD] at p
  cases q1:S[n]? with
  | none=>rw [q1] at p;exact p.elim
  | some o=>
   rw [q1] at p
   cases o with
   | lst ds=>
    obtain ⟨xs,h1,h2⟩:=rp.ats n _ a q1 h
    cases e <;> first | exact False.elim p | exact sq (.inl (.inl (.inl h1))) h2 rfl rfl p
   | dct kvs=>
    obtain ⟨ks,h1,h2⟩:=rp.ats n _ a q1 h
    obtain ⟨z,e1,p⟩:=a87 p
    cases e2:D1 e with
    | none=>rw [e2] at e1;cases e1
    | some k=>
     rw [e2] at e1
     obtain ⟨w,e3,r3⟩:=Y1 h2 e1
     have hy:=K3 re e2
     subst hy
     exact b93 hu value slice pins s σ H _ _ v u Q I rx ry ⟨a,w,rfl,by rw [<- e3];exact DGet.k h1,p μ H (Lat.refl _ _) rp _ r3⟩ hs
   | exc _ _=>exact p.elim
 | _=>cases e <;> exact False.elim p
noncomputable def J0 (ds:List D) (lo hi:Option Int):List D:=(ds.drop (HT.sIx ds.length 0 lo)).take (HT.sIx ds.length ds.length hi-HT.sIx ds.length 0 lo)
theorem b1w {K:PySem.W.Frag} {μ:Mp} {H:Hp} {ds:List D} {xs:List V} (r:RDs K μ H ds xs) (lo hi:Option Int):RDs K μ H (J0 ds lo hi) (a6d xs lo hi):=by
 unfold J0 a6d
 rw [<- r.length]
 exact (r.drop _).take _
noncomputable def slD (x:D) (lo hi:Option Int):M D:=match x with
 | .tup ds=>ret (.tup (J0 ds lo hi))
 | x=>bind (match x with
  | .scr ds=>ret ds
  | x=>lstOf x) λds=>ret (.lst (J0 ds lo hi))
end
noncomputable def noStar:Expr->Bool
 | .Starred ..=>false
 | _=>true
noncomputable def C5:Expr->Bool
 | .ListComp ..=>false
 | .SetComp ..=>false
 | .DictComp ..=>false
 | _=>true
noncomputable def F9:Expr->Bool
 | .Slice ..=>false
 | _=>true
noncomputable def z0:Expr->Bool
 | .Set ..=>false
 | _=>true
noncomputable def G0:Expr->Bool
 | .Call (.Name _ _) [] [] _=>false
 | _=>true
noncomputable def E6:Expr->Bool
 | .UnaryOp .Not _ _=>false
 | .BoolOp ..=>false
 | .IfExp ..=>false
 | .Compare ..=>false
 | _=>true
theorem k6 {e:Expr} {es:List Expr} {env:PySem.Env} (h:noStar e=true):starEach (e :: es) env=(false,eval e env) :: starEach es env:=by
 cases e <;> first | rfl | (exact absurd h (by simp [noStar]))
theorem w5:∀ {es:List Expr} {env:PySem.Env} {pos:Pos},es.all noStar=true->(backTo pos (starEach es env)).any (·.1)=false
 | [],_,_,_=>rfl
 | e :: es,env,pos,h=>by
  rw [List.all_cons,Bool.and_eq_true] at h
  rw [k6 h.1]
  show (false||(backTo pos (starEach es env)).any (·.1))=false
  rw [w5 h.2];rfl
theorem a0t:∀ {es:List Expr} {env:PySem.Env} {pos:Pos},es.all noStar=true->(backTo pos (starEach es env)).all (λx=>!x.1)=true
 | [],_,_,_=>rfl
 | e :: es,env,pos,h=>by
  rw [List.all_cons,Bool.and_eq_true] at h
  rw [k6 h.1]
  show (!false&&(backTo pos (starEach es env)).all (λx=>!x.1))=true
  rw [a0t h.2];rfl
theorem L5 {e:Expr} {t:Option Expr} {n:Nat} {env:PySem.Env} (h:C5 e=true):swapsWith e t n env=pure false:=by
 cases e <;> first | rfl | (exact absurd h (by simp [C5]))
theorem a7u {e:Expr} (h:F9 e=true):a2w e:=by
 intro o i
 cases e <;> first | rfl | (exact absurd h (by simp [F9]))
theorem U9 {op:CmpOp} {e:Expr} (h:z0 e=true):behindInMarks op e=false:=by
 cases e <;> first | rfl | (exact absurd h (by simp [z0]))
theorem E5 {e:Expr} {env:PySem.Env} (h:z0 e=true):∀ x,foldedSetIterable e env x=pure x:=by
 intro x
 cases e <;> first | rfl | (exact absurd h (by simp [z0]))
theorem Q5 {o:Expr} {f:Str} {env:PySem.Env} (h:G0 o=true):attributeBase o f env (eval o env)=eval o env:=by
 unfold attributeBase
 split
 ·exact absurd h (by simp [G0])
 ·rfl
theorem test_of {e:Expr} {env:PySem.Env} (h:E6 e=true):∀ whole,isTrue e env whole=(do let v <- whole;standAt e.pos;holding [v] (truthy v)):=by
 intro whole
 cases e <;> first
  | rfl
  | (rename_i op _ _;cases op <;> first | rfl | (exact absurd h (by simp [E6])))
  | (exact absurd h (by simp [E6]))
section
variable {X:Cx} {cl:Nat->Addr} {xe:Addr->Hp->Prop} {e:Expr} {es:List Expr} {pos:Pos} {f:Env->M D} {fs:Env->M (List D)}
theorem b8f:PA X [] (tDs X.K cl xe λ_=>ret []):=PA.imp a02 λσ H Q ⟨μ,S,ρ,eo,rp,p⟩=>p.ret μ H (Lat.refl _ _) rp [] .nil
theorem b3q (h:PE X e (tD X.K cl xe f)) (hs:PA X es (tDs X.K cl xe fs)) (hn:noStar e=true):PA X (e :: es) (tDs X.K cl xe λρ=>bind (f ρ) λd=>bind (fs ρ) λds=>ret (d :: ds)):=
 PA.imp (B7 h hs (k6 hn)) λσ H Q ⟨μ,S,ρ,eo,rp,p⟩=>
  ⟨μ,S,ρ,eo,rp,p.bind.imp λd S1 μ1 H1 l1 r1 p1 v rv=>⟨μ1,S1,ρ,eo.later l1,r1,p1.bind.imp λds S2 μ2 H2 l2 r2 p2 vs rvs=>p2.ret μ2 H2 (Lat.refl _ _) r2 _ (.cons (rv.later l2) rvs)⟩⟩
noncomputable def c2j (ds:List D):M D:=if ds.length<=sizeLine then ret (.tup ds) else bad
noncomputable def c23 (ds:List D):M D:=if ds.length<=sizeLine then ret (.lst ds) else bad
theorem c31 {k:Nat} (h:PA X es (tDs X.K cl xe fs)):PE X (.Tuple es k pos) (tD X.K cl xe λρ=>bind (fs ρ) c2j):=PE.imp (c30 h) λσ H Q ⟨μ,S,ρ,eo,rp,p⟩=>
 ⟨μ,S,ρ,eo,rp,p.bind.imp λds S1 μ1 H1 l1 r1 p1 vs rvs=>by
  obtain ⟨hl,p1⟩:=Post.guard p1
  refine ⟨by rw [<- rvs.length];exact hl,λz hz=>?_⟩
  obtain ⟨l,rp2,rd2⟩:=M6 r1 rvs hz
  exact p1 μ1 _ l rp2 _ rd2⟩
theorem c5c (h:PA X es (tDs X.K cl xe fs)):PE X (.List es pos) (tD X.K cl xe λρ=>bind (fs ρ) c23):=PE.imp (b25 h) λσ H Q ⟨μ,S,ρ,eo,rp,p⟩=>
 ⟨μ,S,ρ,eo,rp,p.bind.imp λds S1 μ1 H1 l1 r1 p1 vs rvs=>by
  obtain ⟨hl,p1⟩:=Post.guard p1
  refine ⟨by rw [<- rvs.length];exact hl,λz hz=>?_⟩
  obtain ⟨l,rp2,rd2⟩:=T0 r1 rvs hz
  exact p1 μ1 _ l rp2 _ rd2⟩
noncomputable def b2e (ds:List D):M D:=λS=>if ds.length<=sizeLine then .ok (.ref S.length) (S++[.lst ds]) else .bad
theorem b95 (h:PA X es (tDs X.K cl xe fs)):PE X (.List es pos) (tD X.K cl xe λρ=>bind (fs ρ) b2e):=PE.imp (b25 h) λσ H Q ⟨μ,S,ρ,eo,rp,p⟩=>
 ⟨μ,S,ρ,eo,rp,p.bind.imp λds S1 μ1 H1 l1 r1 p1 vs rvs=>by
  unfold b2e at p1
  by_cases hl:ds.length<=sizeLine
  ·rw [if_pos hl] at p1
   refine ⟨by rw [<- rvs.length];exact hl,λz hz=>?_⟩
   obtain ⟨l,rp2,rd2⟩:=a94 r1 rvs hz
   exact p1 _ _ l rp2 _ rd2
  ·rw [if_neg hl] at p1;exact p1.elim⟩
noncomputable def b5u (E:XK):Addr->Hp->Prop:=λa H=>E (.ref a) none H
noncomputable def spD (K:PySem.W.Frag) (cl:Nat->Addr) (n:Nat) (run:List D->M D):Sp:=λvs H Q E=>vs.length=n/\∃ μ S ds,RDs K μ H ds vs/\Rep K cl μ S H/\Post K cl (b5u E0) μ H (run ds S) λd _ μ' H'=>∀ v,RD K μ' H' d v->Q v H'
theorem b28 {g:List D->M D} {id:String} {x:Str} {p:Pos} (hc:o0 X (.builtin id) (rPs X.K cl xe g)) (hg:Gl X x) (hm:X.mg x=none) (hv:bootBuiltins x=some (.builtin id)) (ha:PA X (e :: es) (tDs X.K cl xe fs)) (hn:x ≠ "__name__") (hdb:(x==("__debug__" : Str))=false) (hs:(e :: es).all noStar=true) :
  PE X (.Call (.Name x p) (e :: es) [] pos) (tD X.K cl xe λρ=>bind (fs ρ) g):=by
 rw [List.all_cons,Bool.and_eq_true] at hs
 exact PE.imp (a38 hc hg hm hv ha hn hdb (k6 hs.1) (w5 hs.2)) λσ H Q ⟨μ,S,ρ,eo,rp,p⟩=>⟨μ,S,ρ,eo,rp,p.bind.imp λds S1 μ1 H1 l1 r1 p1 vs rvs=>⟨μ1,S1,ds,rvs,r1,p1⟩⟩
theorem b6m {g:List D->M D} {T:String} {x:Str} {p:Pos} (hc:o0 X (.type T) (rPs X.K cl xe g)) (hg:Gl X x) (hm:X.mg x=none) (hv:bootBuiltins x=some (.type T)) (ha:PA X (e :: es) (tDs X.K cl xe fs)) (hn:x ≠ "__name__") (hdb:(x==("__debug__" : Str))=false) (hs:(e :: es).all noStar=true) :
  PE X (.Call (.Name x p) (e :: es) [] pos) (tD X.K cl xe λρ=>bind (fs ρ) g):=by
 rw [List.all_cons,Bool.and_eq_true] at hs
 exact PE.imp (a9w hc hg hm hv ha hn hdb (k6 hs.1) (w5 hs.2)) λσ H Q ⟨μ,S,ρ,eo,rp,p⟩=>⟨μ,S,ρ,eo,rp,p.bind.imp λds S1 μ1 H1 l1 r1 p1 vs rvs=>⟨μ1,S1,ds,rvs,r1,p1⟩⟩
end
noncomputable def one (g:D->M D) (ds:List D):M D:=match ds with
 | [d]=>g d
 | _=>bad
noncomputable def j8 (d:D):M D:=match d with
 | .str x=>if x.length<=sizeLine then ret (.int x.length) else bad
 | .ref n=>λS=>match S[n]? with
  | some (.lst ds)=>.ok (.int ds.length) S
  | some (.dct kvs)=>.ok (.int kvs.length) S
  | _=>.bad
 | d=>bind (a1d d) λds=>ret (.int ds.length)
noncomputable def J7 (d:D):M D:=match d with
 | .tup ds=>ret (.tup ds)
 | d=>bind (a1d d) λds=>ret (.tup ds)
instance (p:PyData):Decidable (Shows p):=decidable_of_iff (p.showable=true/\p.hasDict=false/\p.depth<=60/\p.shown.length<=sizeLine) ⟨λ⟨a,b,c,d⟩=>⟨a,b,c,d⟩,λ⟨a,b,c,d⟩=>⟨a,b,c,d⟩⟩
theorem b4f {K:PySem.W.Frag} {μ:Mp} {H:Hp} {d:D} {vs:List V} (r:RDs K μ H [d] vs):∃ v,vs=[v]/\RD K μ H d v:=by
 cases r with
 | cons h t=>cases t;exact ⟨_,rfl,h⟩
section
variable {X:Cx} {cl:Nat->Addr} {xe:Addr->Hp->Prop}
theorem V6 {g:D->M D} {f:Value} (h:∀ (pins:List (Addr×Obj)) (s:Shared) (σ:L2.St) (H:Hp) (μ:Mp) (S:Sto) (d:D) (v:V) (us:List Value) (Q:VK),L2.Inv X pins σ H s->Vals [v] us->RD X.K μ H d v->Rep X.K cl μ S H->Post X.K cl xe μ H (g d S) (λr _ μ' H'=>∀ v,RD X.K μ' H' r v->Q v H') ->
  wpAny (model X.prog X.w) X.A (call f us) (EP X pins σ Q) X.xe s):o0 X f (rPs X.K cl xe (one g)):=by
 intro pins s σ H xs us Q I r ⟨μ,S,ds,rds,rp,p⟩
 match ds,p with
 | [d],p=>
  obtain ⟨v,rfl,rd⟩:=b4f rds
  exact h pins s σ H μ S d v us Q I r rd rp p
 | [],p=>exact p.elim
 | _ :: _ :: _,p=>exact p.elim
theorem c8e:o0 X (.builtin "len") (rPs X.K cl xe (one j8)):=V6 λpins s σ H μ S d v us Q I r rd rp p=>by
 have sq:∀ {a:Addr} {xs:List V} {ds:List D},(SqL X.K H a xs\/SqT X.K H a xs)->RDs X.K μ H ds xs->v=.ref a->(∀ μ' H',Lat μ H μ' H'->Rep X.K cl μ' S H'->∀ w,RD X.K μ' H' (.int ds.length) w->Q w H')->wpAny (model X.prog X.w) X.A (call (.builtin "len") us) (EP X pins σ Q) X.xe s:=λ{a xs ds} hq r2 hv q=>by
  subst hv
  exact a35 pins s σ H _ us Q I r ⟨a,xs,rfl,hq,by rw [<- r2.length];exact q μ H (Lat.refl _ _) rp _ (.int _)⟩
 cases rd with
 | str x=>
  obtain ⟨hl,p⟩:=Post.guard p
  exact a2y pins s σ H _ us Q I r ⟨x,rfl,hl,p μ H (Lat.refl _ _) rp _ (.int _)⟩
 | tup h r2=>exact sq (.inr h.sq) r2 rfl p
 | lst h r2=>exact sq (.inl h.sq) r2 rfl p
 | scr h r2=>exact sq (.inl h.sq) r2 rfl p
 | ref h=>
  rename_i n a
  simp only [j8] at p
  cases q1:S[n]? with
  | none=>rw [q1] at p;exact p.elim
  | some o=>
   rw [q1] at p
   cases o with
   | lst ds=>
    obtain ⟨xs,h1,h2⟩:=rp.ats n _ a q1 h
    exact sq (.inl (.inl (.inl h1))) h2 rfl p
   | dct kvs=>
    obtain ⟨ks,h1,h2⟩:=rp.ats n _ a q1 h
    have hl:kvs.length=ks.length:=Paired.length h2
    exact b1b pins s σ H _ us Q I r ⟨a,ks,rfl,h1,by rw [<- hl];exact p μ H (Lat.refl _ _) rp _ (.int _)⟩
   | exc _ _=>exact p.elim
 | _=>exact False.elim p
theorem b6u:o0 X (.type "tuple") (rPs X.K cl xe (one J7)):=V6 λpins s σ H μ S d v us Q I r rd rp p=>by
 have sq:∀ {a:Addr} {xs:List V} {ds:List D},SqL X.K H a xs->RDs X.K μ H ds xs->v=.ref a->(∀ μ' H',Lat μ H μ' H'->Rep X.K cl μ' S H'->∀ w,RD X.K μ' H' (.tup ds) w->Q w H')->wpAny (model X.prog X.w) X.A (call (.type "tuple") us) (EP X pins σ Q) X.xe s:=λ{a xs ds} hq r2 hv q=>by
  subst hv
  refine O3 pins s σ H _ us Q I r ⟨a,xs,rfl,.inl ⟨hq,λz hz=>?_⟩⟩
  obtain ⟨l,rp2,rd2⟩:=M6 rp r2 hz
  exact q μ _ l rp2 _ rd2
 cases rd with
 | tup h r2=>exact O3 pins s σ H _ us Q I r ⟨_,_,rfl,.inr ⟨h.sq,p μ H (Lat.refl _ _) rp _ (.tup h r2)⟩⟩
 | lst h r2=>exact sq h.sq r2 rfl p
 | scr h r2=>exact sq h.sq r2 rfl p
 | ref h=>
  rename_i n a0
  have p2:Post X.K cl xe μ H (bind (lstOf (.ref n)) (λds=>ret (D.tup ds)) S) (λr _ μ' H'=>∀ v,RD X.K μ' H' r v->Q v H'):=p
  obtain ⟨a,xs,ds,e1,h1,h2,e2⟩:=u0 (.ref h) rp p2.bind
  exact sq (.inl (.inl h1)) h2 e1 (p2.ok_bind e2)
 | _=>exact False.elim p
end
noncomputable def Mp.free (μ:Mp):Mp:=⟨μ.pl,μ.rs.tail⟩
section
variable {K:PySem.W.Frag} {cl:Nat->Addr} {xe:Addr->Hp->Prop} {μ μ2:Mp} {S S2:Sto} {H H2:Hp} {p:Addr} {o:HO}
theorem b7w (rp:Rep K cl μ S H) (hp:H p=none):(∀ {d:D} {v:V},RD K μ H d v->RD K (μ.hold p) (upd H p o) d v)/\∀ {ds:List D} {vs:List V},RDs K μ H ds vs->RDs K (μ.hold p) (upd H p o) ds vs:=by
 have ho:∀ a u,H a=some u->a∉μ.pl->a∉μ.rs->upd H p o a=some u/\a∉(μ.hold p).pl/\a∉(μ.hold p).rs:=λa u e n1 n2=>by
  have ne:=d8 e hp
  exact ⟨by rw [b9 ne];exact e,n1,λz=>(List.mem_cons.mp z).elim ne n2⟩
 exact ⟨λr=>r.move (μ:=μ) (μ':=μ.hold p) (H':=upd H p o) (λ_ _ e=>e) ho,λr=>r.move (μ:=μ) (μ':=μ.hold p) (H':=upd H p o) (λ_ _ e=>e) ho⟩
theorem a01 (rp:Rep K cl μ S H) (hp:H p=none):Rep K cl (μ.hold p) S (upd H p o):=by
 have ho:∀ a u,H a=some u->a∉μ.pl->a∉μ.rs->upd H p o a=some u/\a∉(μ.hold p).pl/\a∉(μ.hold p).rs:=λa u e n1 n2=>by
  have ne:=d8 e hp
  exact ⟨by rw [b9 ne];exact e,n1,λz=>(List.mem_cons.mp z).elim ne n2⟩
 refine rp.move (λa m=>?_) rfl (λa m=>b9 λz=>rp.notin hp (z▸m)) (λa u e=>by rw [b9 (d8 e hp)];exact e) ho
 rcases List.mem_cons.mp (show a∈p :: μ.rs from m) with rfl | m
 ·exact ⟨rp.notin hp,o,d4⟩
 ·obtain ⟨h1,u,h2⟩:=rp.res a m
  exact ⟨h1,u,by rw [b9 (d8 h2 hp)];exact h2⟩
theorem a0v {ρ:Env} {σ:L2.St} (rp:Rep K cl μ S H) (hp:H p=none) (eo:EnvOk K μ H ρ σ):EnvOk K (μ.hold p) (upd H p o) ρ σ:=⟨eo.1,λi d e=>let ⟨v,q,r⟩:=eo.2 i d e;⟨v,q,(b7w rp hp).1 r⟩⟩
theorem a5c {ds:List D} {vs:List V} (r:RDs K μ H ds vs):RDs K μ.free H ds vs:=r.move (μ:=μ) (μ':=μ.free) (λ_ _ e=>e) λa u e n1 n2=>⟨e,n1,λz=>n2 (List.mem_of_mem_tail z)⟩
theorem a0o (rp:Rep K cl μ S H):Rep K cl μ.free S H:=rp.move (λa m=>rp.res a (List.mem_of_mem_tail m)) rfl (λ_ _=>rfl) (λ_ _ e=>e) λa u e n1 n2=>⟨e,n1,λz=>n2 (List.mem_of_mem_tail z)⟩
theorem a2i {rs:List Addr} {ds:List D} {vs:List V} (e:μ.rs=p :: rs) (r:RDs K μ H ds vs):RDs K μ (upd H p o) ds vs:=r.move (λ_ _ e=>e) λa u q n1 n2=>⟨by rw [b9 (λz=>n2 (by rw [e,z];exact List.mem_cons_self))];exact q,n1,n2⟩
theorem Z3 {rs:List Addr} {d:D} {v:V} (e:μ.rs=p :: rs) (r:RD K μ H d v):RD K μ (upd H p o) d v:=r.move (λ_ _ e=>e) λa u q n1 n2=>⟨by rw [b9 (λz=>n2 (by rw [e,z];exact List.mem_cons_self))];exact q,n1,n2⟩
theorem a12 {rs:List Addr} {xs:List V} (e:μ.rs=p :: rs) (hp:H p=some (.lst xs)) (rp:Rep K cl μ S H):Rep K cl μ S (upd H p o):=by
 have np:p∉μ.pl:=(rp.res p (by rw [e];exact List.mem_cons_self)).1
 refine rp.move (λa m=>?_) rfl (λa m=>b9 λz=>np (z▸m)) (λa u q=>by rw [b9 (b4z q hp (by intro z;cases z))];exact q) λa u q n1 n2=>⟨by rw [b9 (λz=>n2 (by rw [e,z];exact List.mem_cons_self))];exact q,n1,n2⟩
 obtain ⟨h1,u,h2⟩:=rp.res a m
 by_cases z:a=p
 ·subst z;exact ⟨h1,o,d4⟩
 ·exact ⟨h1,u,by rw [b9 z];exact h2⟩
end
inductive Fl where
 | nx (ρ:Env) | rt (d:D) | bk (ρ:Env) | ct (ρ:Env)
noncomputable def c5x (K:PySem.W.Frag) (D:Ends) (fl:Fl) (μ:Mp) (H:Hp):Prop:=match fl with
 | .nx ρ=>∀ σ,EnvOk K μ H ρ σ->D.nx σ H
 | .rt d=>∀ v,RD K μ H d v->D.rt v H
 | .bk ρ=>∀ σ,EnvOk K μ H ρ σ->D.bk σ H
 | .ct ρ=>∀ σ,EnvOk K μ H ρ σ->D.ct σ H
noncomputable def sD (K:PySem.W.Frag) (cl:Nat->Addr) (xe:Addr->Hp->Prop) (f:Env->M Fl):TS:=λD σ H=>∃ μ S ρ,EnvOk K μ H ρ σ/\Rep K cl μ S H/\Post K cl xe μ H (f ρ S) λfl _ μ' H'=>c5x K D fl μ' H'
noncomputable def c6t (f g:Env->M Fl) (ρ:Env):M Fl:=bind (f ρ) λfl=>match fl with
 | .nx ρ'=>g ρ'
 | fl=>ret fl
section
variable {X:Cx} {cl:Nat->Addr} {xe:Addr->Hp->Prop} {e:Expr} {st:Stmt} {sts:List Stmt} {pos:Pos} {f:Env->M D} {g h:Env->M Fl}
theorem O7 {st:Stmt}:PS X st (sD X.K cl xe λ_=>bad):=λ_ _ _ _ _ _ ⟨_,_,_,_,_,p⟩=>p.elim
theorem b19:PSs X [] (sD X.K cl xe λρ=>ret (.nx ρ)):=PSs.imp b7d λD σ H ⟨μ,S,ρ,eo,rp,p⟩=>p.ret μ H (Lat.refl _ _) rp σ eo
theorem c0e (h1:PS X st (sD X.K cl xe g)) (h2:PSs X sts (sD X.K cl xe h)):PSs X (st :: sts) (sD X.K cl xe (c6t g h)):=PSs.imp (R1 h1 h2) λD σ H ⟨μ,S,ρ,eo,rp,p⟩=>
 ⟨μ,S,ρ,eo,rp,p.bind.imp λfl S1 μ1 H1 l1 r1 p1=>by
  cases fl with
  | nx ρ1=>exact λσ1 eo1=>⟨μ1,S1,ρ1,eo1,r1,p1⟩
  | rt d=>exact p1.ret μ1 H1 (Lat.refl _ _) r1
  | bk ρ1=>exact p1.ret μ1 H1 (Lat.refl _ _) r1
  | ct ρ1=>exact p1.ret μ1 H1 (Lat.refl _ _) r1⟩
theorem b2b (he:PE X e (tD X.K cl xe f)) (hn:C5 e=true):PS X (.Expr e pos) (sD X.K cl xe λρ=>bind (f ρ) λ_=>ret (.nx ρ)):=PS.imp (Y9 he (L5 hn)) λD σ H ⟨μ,S,ρ,eo,rp,p⟩=>
 ⟨μ,S,ρ,eo,rp,p.bind.imp λd S1 μ1 H1 l1 r1 p1 v rv=>p1.ret μ1 H1 (Lat.refl _ _) r1 σ (eo.later l1)⟩
theorem b8w (he:PE X e (tD X.K cl xe f)):PS X (.Return (some e) pos) (sD X.K cl xe λρ=>bind (f ρ) λd=>ret (.rt d)):=PS.imp (c3n he) λD σ H ⟨μ,S,ρ,eo,rp,p⟩=>
 ⟨μ,S,ρ,eo,rp,p.bind.imp λd S1 μ1 H1 l1 r1 p1 v rv=>p1.ret μ1 H1 (Lat.refl _ _) r1 v rv⟩
theorem c5o {c:Expr} {t:Env->M Bool} {a b:List Stmt} (hc:PT X c (tBo X.K cl xe t)) (ha:PSs X a (sD X.K cl xe g)) (hb:PSs X b (sD X.K cl xe h)):PS X (.If c a b pos) (sD X.K cl xe λρ=>bind (t ρ) λq=>if q=true then g ρ else h ρ):=PS.imp (L2.ps_if hc ha hb) λD σ H ⟨μ,S,ρ,eo,rp,p⟩=>
 ⟨μ,S,ρ,eo,rp,p.bind.imp λq S1 μ1 H1 l1 r1 p1=>by
  cases q with
  | true=>exact ⟨μ1,S1,ρ,eo.later l1,r1,p1⟩
  | false=>exact ⟨μ1,S1,ρ,eo.later l1,r1,p1⟩⟩
theorem b7b {i:Nat} {x:Str} {pos':Pos} (hN:X.N.Nodup) (hi:X.N[i]?=some x) (hx:Loc X.env.scope x) (he:PE X e (tD X.K cl xe f)) (hn:C5 e=true) (hf:X.fn x=true\/X.env.scope.names.lookup x=some .local) :
  PS X (.Assign [.Name x pos'] e pos) (sD X.K cl xe λρ=>bind (f ρ) λd=>ret (.nx (ρ.set i (some d)))):=PS.imp (b6a hN hi hx he (L5 hn) hf) λD σ H ⟨μ,S,ρ,eo,rp,p⟩=>
 ⟨μ,S,ρ,eo,rp,p.bind.imp λd S1 μ1 H1 l1 r1 p1 v rv=>p1.ret μ1 H1 (Lat.refl _ _) r1 _ ((eo.later l1).set rv i)⟩
noncomputable def b73 (K:PySem.W.Frag) (cl:Nat->Addr) (tg:D->Env->Option Env):TG:=λv σ H Q=>∃ μ S ρ d ρ',EnvOk K μ H ρ σ/\Rep K cl μ S H/\RD K μ H d v/\tg d ρ=some ρ'/\∀ σ',EnvOk K μ H ρ' σ'->Q σ' H
theorem PG.imp {t:Expr} {u u':TG} (h:PG X t u) (k:∀ v σ H Q,u' v σ H Q->u v σ H Q):PG X t u':=λpins s σ H v w Q I r q=>h pins s σ H v w Q I r (k v σ H Q q)
theorem b22 {i:Nat} {x:Str} {pos':Pos} (hN:X.N.Nodup) (hi:X.N[i]?=some x) (hx:Loc X.env.scope x) (hf:X.fn x=true\/X.env.scope.names.lookup x=some .local):PG X (.Name x pos') (b73 X.K cl λd ρ=>some (ρ.set i (some d))):=
 PG.imp (M9 hN hi hx hf) λv σ H Q ⟨μ,S,ρ,d,ρ',eo,rp,rd,e,q⟩=>by
  cases e
  exact q _ (eo.set rd i)
noncomputable def Z2:List Nat->List D->Env->Option Env
 | [],[],ρ=>some ρ
 | i :: is,d :: ds,ρ=>Z2 is ds (ρ.set i (some d))
 | _,_,_=>none
noncomputable def m9 (is:List Nat) (d:D) (ρ:Env):Option Env:=match d with
 | .tup ds=>Z2 is ds ρ
 | _=>none
noncomputable def M3 (X:Cx):List Expr->List Nat->Prop
 | [],[]=>True
 | .Name x _ :: ts,i :: is=>X.N[i]?=some x/\Loc X.env.scope x/\(X.fn x=true\/X.env.scope.names.lookup x=some .local)/\M3 X ts is
 | _,_=>False
theorem a19 (hN:X.N.Nodup):∀ {ts:List Expr} {is:List Nat},M3 X ts is->PGs X ts (λvs σ H Q=>∃ μ ds ρ ρ',EnvOk X.K μ H ρ σ/\RDs X.K μ H ds vs/\Z2 is ds ρ=some ρ'/\∀ σ',EnvOk X.K μ H ρ' σ'->Q σ' H)
 | [],[],_=>λpins s σ H vs us Q I r ⟨μ,ds,ρ,ρ',eo,rd,e,q⟩=>by
  cases ds with
  | nil=>
   cases rd
   cases e
   exact b62 pins s σ H [] us Q I r ⟨rfl,q σ eo⟩
  | cons d ds=>cases e
 | .Name x p :: ts,i :: is,⟨h1,h2,h3,h4⟩=>λpins s σ H vs us Q I r ⟨μ,ds,ρ,ρ',eo,rd,e,q⟩=>by
  cases ds with
  | nil=>cases e
  | cons d ds=>
   cases rd with
   | cons r1 r2=>
    exact b6f (M9 (i:=i) hN h1 h2 h3) (a19 hN h4) rfl pins s σ H _ us Q I r ⟨_,_,rfl,μ,ds,_,ρ',eo.set r1 i,r2,e,q⟩
theorem Q9 {ts:List Expr} {is:List Nat}:M3 X ts is->(assignEach ts X.env).length=is.length/\(assignEach ts X.env).findIdx? (·.1)=none:=by
 induction ts generalizing is with
 | nil=>
  intro h
  cases is with
  | nil=>exact ⟨rfl,rfl⟩
  | cons i is=>exact h.elim
 | cons t ts ih=>
  intro h
  cases is with
  | nil=>cases t <;> exact h.elim
  | cons i is=>
   cases t with
   | Name x p=>
    obtain ⟨_,_,_,h4⟩:=h
    obtain ⟨a,b⟩:=ih h4
    refine ⟨by show (assignEach ts X.env).length+1=_;rw [a];rfl,?_⟩
    show ((false,assign (.Name x p) X.env) :: assignEach ts X.env).findIdx? (·.1)=none
    rw [List.findIdx?_cons]
    simp [b]
   | _=>exact h.elim
theorem a0p:∀ {is:List Nat} {ds:List D} {ρ ρ':Env},Z2 is ds ρ=some ρ'->ds.length=is.length
 | [],[],_,_,_=>rfl
 | _ :: _,_ :: _,_,_,e=>by simp [a0p (by simpa [Z2] using e)]
 | [],_ :: _,_,_,e=>by cases e
 | _ :: _,[],_,_,e=>by cases e
theorem a3r {ts:List Expr} {is:List Nat} {k:Nat} {pos':Pos} (hc:X.calm=true) (hN:X.N.Nodup) (h:M3 X ts is):PG X (.Tuple ts k pos') (b73 X.K cl (m9 is)):=
 PG.imp (c5a (n:=is.length) hc (a19 hN h) (Q9 h).1 (Q9 h).2) λv σ H Q ⟨μ,S,ρ,d,ρ',eo,rp,rd,e,q⟩=>by
  cases rd with
  | tup h1 h2=>exact ⟨_,_,rfl,h1.sq,by rw [<- h2.length];exact a0p e,μ,_,ρ,ρ',eo,h2,e,q⟩
  | _=>cases e
noncomputable def b2z:Expr->Bool
 | .Tuple ..=>false
 | _=>true
noncomputable def A4 (tg:D->Env->Option Env) (d:D) (ρ:Env):M Fl:=match tg d ρ with
 | some ρ'=>ret (.nx ρ')
 | none=>bad
theorem b8j {ts:List Expr} {is:List Nat} {k:Nat} {pos':Pos} (hc:X.calm=true) (hN:X.N.Nodup) (h:M3 X ts is) (he:PE X e (tD X.K cl xe f)) (hn:C5 e=true) (hn2:b2z e=true):PS X (.Assign [.Tuple ts k pos'] e pos) (sD X.K cl xe λρ=>bind (f ρ) λd=>A4 (m9 is) d ρ):=
 PS.imp (a6v he (a3r (cl:=cl) hc hN h) (by unfold swapsWithSole;exact L5 hn) (by cases e <;> first | rfl | (exact absurd hn2 (by simp [b2z]))) rfl) λD σ H ⟨μ,S,ρ,eo,rp,p⟩=>
  ⟨μ,S,ρ,eo,rp,p.bind.imp λd S1 μ1 H1 l1 r1 p1 v rv=>by
   cases e1:m9 is d ρ with
   | none=>simp only [A4,e1] at p1;exact p1.elim
   | some ρ'=>simp only [A4,e1] at p1;exact ⟨μ1,S1,ρ,d,ρ',eo.later l1,r1,rv,e1,p1.ret μ1 H1 (Lat.refl _ _) r1⟩⟩
end
structure LatR (μ:Mp) (H:Hp) (μ':Mp) (H':Hp):Prop where
 pre:∀ (n:Nat) (a:Addr),μ.pl[n]?=some a->μ'.pl[n]?=some a
 oth:∀ a o,H a=some o->a∉μ.pl->H' a=some o
 new:∀ a,a∈μ'.pl->a∈μ.pl\/H a=none
 rsw:∀ a,a∈μ'.rs->a∈μ.rs\/H a=none
theorem Lat.r {μ μ':Mp} {H H':Hp} (l:Lat μ H μ' H'):LatR μ H μ' H':=⟨l.pre,l.oth,l.new,λa m=>.inl (by rw [l.rsv] at m;exact m)⟩
structure LatU (μ:Mp) (H:Hp) (μ':Mp) (H':Hp):Prop where
 pre:∀ (n:Nat) (a:Addr),μ.pl[n]?=some a->μ'.pl[n]?=some a
 oth:∀ a o,H a=some o->a∉μ.pl->a∉μ.rs->H' a=some o
 new:∀ a,a∈μ'.pl->a∈μ.pl\/H a=none
 rsw:∀ a,a∈μ'.rs->a∈μ.rs\/H a=none
theorem LatR.u {μ μ':Mp} {H H':Hp} (l:LatR μ H μ' H'):LatU μ H μ' H':=⟨l.pre,λa o e n _=>l.oth a o e n,l.new,l.rsw⟩
theorem LatU.out {μ μ':Mp} {H H':Hp} (l:LatU μ H μ' H') (a:Addr) (u:HO) (e:H a=some u) (n1:a∉μ.pl) (n2:a∉μ.rs):H' a=some u/\a∉μ'.pl/\a∉μ'.rs:=by
 refine ⟨l.oth a u e n1 n2,λz=>?_,λz=>?_⟩
 ·rcases l.new a z with q | q
  ·exact n1 q
  ·rw [e] at q;cases q
 ·rcases l.rsw a z with q | q
  ·exact n2 q
  ·rw [e] at q;cases q
theorem RDs.laterU {K:PySem.W.Frag} {μ μ':Mp} {H H':Hp} (l:LatU μ H μ' H') {ds:List D} {vs:List V} (r:RDs K μ H ds vs):RDs K μ' H' ds vs:=r.move l.pre l.out
noncomputable abbrev Src:=Nat->Sto->Option (Option D)
noncomputable def X4 (K:PySem.W.Frag) (cl:Nat->Addr) (J:It) (i:Nat) (μ2:Mp) (H2:Hp) (S2:Sto) (o:Option (Option D)):Prop:=match o with
 | some (some d)=>J.go i H2/\∀ x H3,J.yld i H2 x H3->Lat μ2 H2 μ2 H3/\Rep K cl μ2 S2 H3/\RD K μ2 H3 d x
 | some none=>J.stop i H2
 | none=>True
noncomputable def Yl (K:PySem.W.Frag) (cl:Nat->Addr) (J:It) (μ:Mp) (H:Hp) (src:Src):Prop:=∀ (i:Nat) (μ2:Mp) (H2:Hp) (S2:Sto),LatU μ H μ2 H2->Rep K cl μ2 S2 H2->X4 K cl J i μ2 H2 S2 (src i S2)
noncomputable def tIt (K:PySem.W.Frag) (cl:Nat->Addr) (xe:Addr->Hp->Prop) (f:Env->M (Src×Nat)):TI:=λσ H R=>∃ μ S ρ,EnvOk K μ H ρ σ/\Rep K cl μ S H/\Post K cl xe μ H (f ρ S) λp _ μ' H'=>∀ J,Yl K cl J μ' H' p.1->R J H'
theorem PI.imp {X:Cx} {tg it:Expr} {t t':TI} (h:PI X tg it t) (k:∀ σ H R,t' σ H R->t σ H R):PI X tg it t':=λpins s σ H R I q=>h pins s σ H R I (k σ H R q)
theorem c3y {X:Cx} {tg l:Expr} {tl:TE} (hl:PE X l tl):PI X tg l (λσ H R=>tl σ H λx H1=>∃ a,x=.ref a/\(((∃ xs,SqL X.K H1 a xs)/\R (Itl X.K a) H1)\/((∃ xs,SqT X.K H1 a xs)/\R (Itt X.K a) H1))):=by
 intro pins s σ H R I h
 refine thn (hl pins s σ H _ I h) λv s1 ⟨x,H1,I1,r1,q1⟩=>?_
 obtain ⟨a,e,q1⟩:=q1
 subst e
 cases r1
 rcases q1 with ⟨⟨xs,hq⟩,q⟩ | ⟨⟨xs,hq⟩,q⟩
 ·obtain ⟨its,rv,p,hz⟩:=I1.list hq
  refine wpAny_pyIter_list p.isList ?_
  refine ⟨s1.heap.objs.size,[s1.heap.objs.size],_,_,H1,rfl,I1.kept (t':=s1.toks) λb o e=>Heap.get?_push_of_some _ e,b0l a _,⟨_,Heap.get?_push_size _ rfl,rfl,rfl⟩,λb hb=>?_,q⟩
  have e:b=s1.heap.objs.size:=by simpa using hb
  subst e
  exact I1.fpOk (Nat.le_refl _) (I1.hok.fresh (Nat.le_refl _))
 ·obtain ⟨its,rv,p,hz⟩:=I1.tuple hq
  refine wpAny_pyIter_tuple (show s1.heap.IsTuple a its.toArray from p) ?_
  refine ⟨s1.heap.objs.size,[s1.heap.objs.size],_,_,H1,rfl,I1.kept (t':=s1.toks) λb o e=>Heap.get?_push_of_some _ e,a6m a _,⟨_,Heap.get?_push_size _ rfl,rfl,rfl⟩,λb hb=>?_,q⟩
  have e:b=s1.heap.objs.size:=by simpa using hb
  subst e
  exact I1.fpOk (Nat.le_refl _) (I1.hok.fresh (Nat.le_refl _))
noncomputable def N7 (ds:List D):Src:=λi _=>some ds[i]?
noncomputable def b1d (n:Nat):Src:=λi S=>match S[n]? with
 | some (.lst es)=>some es[i]?
 | _=>none
noncomputable def a1v (lo:Int) (n:Nat):Src:=λi _=>some (if i<n then some (.int (lo+i)) else none)
section
variable {K:PySem.W.Frag} {cl:Nat->Addr} {μ:Mp} {H:Hp}
theorem c55 {a:Addr} {xs:List V} {ds:List D} (h:TupAt K μ H a xs) (r:RDs K μ H ds xs):Yl K cl (Itt K a) μ H (N7 ds):=λi μ2 H2 S2 l rp=>by
 have hq:SqT K H2 a xs:=by
  rcases h with ⟨q,n1,n2⟩ | q
  ·rcases q with q | ⟨o,q⟩
   ·exact .inl (.inl (l.oth _ _ q n1 n2))
   ·exact .inl (.inr ⟨o,l.oth _ _ q n1 n2⟩)
  ·obtain ⟨o,its,n,c1,c2,c3,c4,c5,_⟩:=q
   exact .inr ⟨o,its,n,c1,c2,c3,c4,c5⟩
 have r2:=r.laterU l
 show X4 K cl (Itt K a) i μ2 H2 S2 (some ds[i]?)
 cases e:ds[i]? with
 | none=>exact ⟨xs,hq,by rw [<- r.length];exact List.getElem?_eq_none_iff.mp e⟩
 | some d=>
  obtain ⟨v,e1,r1⟩:=r2.get e
  exact ⟨⟨xs,v,hq,e1⟩,λx H3 ⟨e3,q⟩=>by subst e3;have:=q xs hq;rw [e1] at this;cases this;exact ⟨Lat.refl _ _,rp,r1⟩⟩
theorem b20 {a:Addr} {xs:List V} {ds:List D} (h:LstAt μ H a xs\/ScrAt K μ H a xs) (r:RDs K μ H ds xs):Yl K cl (Itl K a) μ H (N7 ds):=λi μ2 H2 S2 l rp=>by
 have hq:SqL K H2 a xs:=by
  rcases h with ⟨q,n1,n2⟩ | ⟨q,n1,n2⟩ | q
  ·exact .inl (.inl (l.oth _ _ q n1 n2))
  ·rcases q with q | ⟨o,q⟩
   ·exact .inl (.inl (l.oth _ _ q n1 n2))
   ·exact .inl (.inr ⟨o,l.oth _ _ q n1 n2⟩)
  ·exact .inr q
 have r2:=r.laterU l
 show X4 K cl (Itl K a) i μ2 H2 S2 (some ds[i]?)
 cases e:ds[i]? with
 | none=>exact ⟨xs,hq,by rw [<- r.length];exact List.getElem?_eq_none_iff.mp e⟩
 | some d=>
  obtain ⟨v,e1,r1⟩:=r2.get e
  exact ⟨⟨xs,v,hq,e1⟩,λx H3 ⟨e3,q⟩=>by subst e3;have:=q xs hq;rw [e1] at this;cases this;exact ⟨Lat.refl _ _,rp,r1⟩⟩
theorem c3d {a:Addr} {n:Nat} (h:μ.pl[n]?=some a):Yl K cl (Itl K a) μ H (b1d n):=λi μ2 H2 S2 l rp=>by
 show X4 K cl (Itl K a) i μ2 H2 S2 (match S2[n]? with
  | some (.lst es)=>some es[i]?
  | _=>none)
 cases q1:S2[n]? with
 | none=>exact True.intro
 | some o=>
  cases o with
  | dct _=>exact True.intro
  | exc _ _=>exact True.intro
  | lst es=>
   obtain ⟨xs,h1,h2⟩:=rp.ats n _ a q1 (l.pre _ _ h)
   have hq:SqL K H2 a xs:=.inl (.inl h1)
   show X4 K cl (Itl K a) i μ2 H2 S2 (some es[i]?)
   cases e:es[i]? with
   | none=>exact ⟨xs,hq,by rw [<- h2.length];exact List.getElem?_eq_none_iff.mp e⟩
   | some d=>
    obtain ⟨v,e1,r1⟩:=h2.get e
    exact ⟨⟨xs,v,hq,e1⟩,λx H3 ⟨e3,q⟩=>by subst e3;have:=q xs hq;rw [e1] at this;cases this;exact ⟨Lat.refl _ _,rp,r1⟩⟩
theorem b1m {lo:Int} {n:Nat}:Yl K cl (Itr lo n) μ H (a1v lo n):=λi μ2 H2 S2 l rp=>by
 show X4 K cl (Itr lo n) i μ2 H2 S2 (some (if i<n then some (.int (lo+i)) else none))
 by_cases hi:i<n
 ·rw [if_pos hi]
  exact ⟨hi,λx H3 ⟨e3,e4⟩=>by subst e3 e4;exact ⟨Lat.refl _ _,rp,.int _⟩⟩
 ·rw [if_neg hi]
  exact Nat.le_of_not_lt hi
end
noncomputable def y9 (d:D):M (Src×Nat):=match d with
 | .tup ds=>ret (N7 ds,ds.length+1)
 | .lst ds=>ret (N7 ds,ds.length+1)
 | .scr ds=>ret (N7 ds,ds.length+1)
 | .ref n=>λS=>match S[n]? with
  | some (.lst ds)=>.ok (b1d n,ds.length+1) S
  | _=>.bad
 | _=>bad
noncomputable def u5 (ds:List D):M (Src×Nat):=match ds with
 | [.int j]=>if -(2 ^ 62)<=j/\j<2 ^ 62 then ret (a1v 0 j.toNat,j.toNat+1) else bad
 | [.int i,.int j]=>if -(2 ^ 62)<=i/\i<2 ^ 62/\-(2 ^ 62)<=j/\j<2 ^ 62 then ret (a1v i (j-i).toNat,(j-i).toNat+1) else bad
 | _=>bad
section
variable {X:Cx} {cl:Nat->Addr} {xe:Addr->Hp->Prop} {e:Expr} {tg:Expr} {pos:Pos} {f:Env->M D}
theorem a85 {tg e:Expr}:PI X tg e (tIt X.K cl xe λ_=>bad):=λ_ _ _ _ _ _ ⟨_,_,_,_,_,p⟩=>p.elim
theorem b66 (h:PE X e (tD X.K cl xe f)):PI X tg e (tIt X.K cl xe λρ=>bind (f ρ) y9):=PI.imp (c3y h) λσ H R ⟨μ,S,ρ,eo,rp,p⟩=>
 ⟨μ,S,ρ,eo,rp,p.bind.imp λd S1 μ1 H1 l1 r1 p1 v rv=>by
  cases rv with
  | tup h r=>exact ⟨_,rfl,.inr ⟨⟨_,h.sq⟩,p1.ret μ1 H1 (Lat.refl _ _) r1 _ (c55 h r)⟩⟩
  | lst h r=>exact ⟨_,rfl,.inl ⟨⟨_,h.sq⟩,p1.ret μ1 H1 (Lat.refl _ _) r1 _ (b20 (.inl h) r)⟩⟩
  | scr h r=>exact ⟨_,rfl,.inl ⟨⟨_,h.sq⟩,p1.ret μ1 H1 (Lat.refl _ _) r1 _ (b20 (.inr h) r)⟩⟩
  | ref h=>
   rename_i n a
   simp only [y9] at p1
   cases q1:S1[n]? with
   | none=>rw [q1] at p1;exact p1.elim
   | some o=>
    rw [q1] at p1
    cases o with
    | lst ds=>
     obtain ⟨xs,h1,h2⟩:=r1.ats n _ a q1 h
     exact ⟨_,rfl,.inl ⟨⟨xs,.inl (.inl h1)⟩,p1 μ1 H1 (Lat.refl _ _) r1 _ (c3d h)⟩⟩
    | dct _=>exact p1.elim
    | exc _ _=>exact p1.elim
  | _=>exact False.elim p1⟩
theorem a7y {a:Expr} {fs:Env->M (List D)} {p:Pos} (hg:Gl X "range") (hm:X.mg "range" = none) (ha:PA X [a] (tDs X.K cl xe fs)) (hs:noStar a=true):PI X tg (.Call (.Name "range" p) [a] [] pos) (tIt X.K cl xe λρ=>bind (fs ρ) λds=>if ds.length=1 then u5 ds else bad):=
 PI.imp (b1h hg hm ha (k6 hs)) λσ H R ⟨μ,S,ρ,eo,rp,p⟩=>⟨μ,S,ρ,eo,rp,p.bind.imp λds S1 μ1 H1 l1 r1 p1 vs rvs=>by
  cases rvs with
  | nil=>exact False.elim p1
  | cons h t=>
   cases t with
   | cons _ t=>rw [if_neg (by simp)] at p1;exact p1.elim
   | nil=>
    rename_i d0 v0
    rw [if_pos (show ([d0]:List D).length=1 from rfl)] at p1
    cases h with
    | int j=>
     obtain ⟨⟨h1,h2⟩,p1⟩:=Post.guard p1
     exact ⟨j,rfl,h1,h2,p1 μ1 H1 (Lat.refl _ _) r1 _ b1m⟩
    | _=>exact False.elim p1⟩
end
noncomputable def y8 (src:Src) (tg:D->Env->Option Env) (body:Env->M Fl):Nat->Nat->Env->M Fl
 | 0,_,_=>bad
 | m+1,i,ρ=>λS=>match src i S with
  | none=>.bad
  | some none=>.ok (.nx ρ) S
  | some (some d)=>match tg d ρ with
   | none=>.bad
   | some ρ1=>bind (body ρ1) (λfl=>match fl with
    | .nx ρ2=>y8 src tg body m (i+1) ρ2
    | .ct ρ2=>y8 src tg body m (i+1) ρ2
    | .bk ρ2=>ret (.nx ρ2)
    | .rt d=>ret (.rt d)) S
section
variable {X:Cx} {cl:Nat->Addr} {xe:Addr->Hp->Prop} {iter tgt:Expr} {pos:Pos} {fi:Env->M (Src×Nat)} {tg:D->Env->Option Env} {g:Env->M Fl} {body:List Stmt}
theorem c01 (hp:PassesOwn (model X.prog X.w) X.A X.env X.xe) (hc:X.calm=true) (hi:PI X tgt iter (tIt X.K cl xe fi)) (hg:PG X tgt (b73 X.K cl tg)) (hb:PSs X body (sD X.K cl xe g)) (hn:z0 iter=true) :
  PS X (.For tgt iter body [] pos) (sD X.K cl xe λρ=>bind (fi ρ) λp=>y8 p.1 tg g p.2 0 ρ):=PS.imp (c29 hp hc hi hg hb (E5 hn)) λD σ H ⟨μ,S,ρ,eo,rp,p⟩=>by
 refine ⟨μ,S,ρ,eo,rp,p.bind.imp λsm S1 μ1 H1 l1 r1 p1 J yl=>?_⟩
 obtain ⟨src,m⟩:=sm
 refine ⟨λi m σ H=>∃ μ2 S2 ρ2,LatR μ1 H1 μ2 H/\EnvOk X.K μ2 H ρ2 σ/\Rep X.K cl μ2 S2 H/\Post X.K cl xe μ2 H (y8 src tg g m i ρ2 S2) (λfl _ μ' H'=>c5x X.K D fl μ' H'),⟨m,μ1,S1,ρ,(Lat.refl _ _).r,eo.later l1,r1,p1⟩,?_⟩
 rintro i m σ2 H2 ⟨μ2,S2,ρ2,l2,eo2,r2,p2⟩
 cases m with
 | zero=>exact p2.elim
 | succ m=>
  have y:X4 X.K cl J i μ2 H2 S2 (src i S2):=yl i μ2 H2 S2 l2.u r2
  simp only [y8] at p2
  cases e1:src i S2 with
  | none=>rw [e1] at p2;exact p2.elim
  | some o=>
   rw [e1] at p2 y
   cases o with
   | none=>exact .inl ⟨y,p2 μ2 H2 (Lat.refl _ _) r2 σ2 eo2⟩
   | some d=>
    obtain ⟨y1,y2⟩:=y
    cases e2:tg d ρ2 with
    | none=>simp only [e2] at p2;exact p2.elim
    | some ρ3=>
     simp only [e2] at p2
     refine .inr ⟨y1,λσ' H'=>∃ μ3 S3 ρ4,LatR μ1 H1 μ3 H'/\EnvOk X.K μ3 H' ρ4 σ'/\Rep X.K cl μ3 S3 H'/\Post X.K cl xe μ3 H' (y8 src tg g m (i+1) ρ4 S3) (λfl _ μ' H'=>c5x X.K D fl μ' H'),λσ' H' q=>⟨m,Nat.lt_succ_self _,q⟩,λx H3 hy=>?_⟩
     obtain ⟨l3,r3,rd3⟩:=y2 x H3 hy
     refine ⟨μ2,S2,ρ2,d,ρ3,eo2.later l3,r3,rd3,e2,λσ3 eo3=>?_⟩
     refine ⟨μ2,S2,ρ3,eo3,r3,(Post.later p2 l3).bind.imp λfl S4 μ4 H4 l4 r4 p4=>?_⟩
     have lr:LatR μ1 H1 μ4 H4:=by
      have l34:=l3.trans l4
      refine ⟨λn a e=>l34.pre n a (l2.pre n a e),λa o e n=>l34.oth a o (l2.oth a o e n) (λz=>(l2.new a z).elim n (λq=>by rw [e] at q;cases q)),λa m=>(l34.new a m).elim (λz=>l2.new a z) (λz=>?_),λa m=>l2.rsw a (by rw [<- l34.rsv];exact m)⟩
      by_cases mm:a∈μ1.pl
      ·exact .inl mm
      ·right
       cases e:H1 a with
       | none=>rfl
       | some o=>rw [l2.oth a o e mm] at z;cases z
     cases fl with
     | nx ρ4=>exact λσ4 eo4=>⟨μ4,S4,ρ4,lr,eo4,r4,p4⟩
     | ct ρ4=>exact λσ4 eo4=>⟨μ4,S4,ρ4,lr,eo4,r4,p4⟩
     | bk ρ4=>exact p4.ret μ4 H4 (Lat.refl _ _) r4
     | rt d=>exact p4.ret μ4 H4 (Lat.refl _ _) r4
end
structure HLat (μ:Mp) (H:Hp) (p:Addr) (μ2:Mp) (H2:Hp):Prop where
 r:LatR μ H μ2 H2
 rs:μ2.rs=p :: μ.rs
theorem HLat.lat {μ μ2 μ':Mp} {H H2 H':Hp} {p:Addr} (h:HLat μ H p μ2 H2) (l:Lat μ2 H2 μ' H'):Lat μ H μ'.free H':=by
 refine ⟨λn a e=>l.pre n a (h.r.pre n a e),λa o e n=>?_,λa m=>?_,by show μ'.rs.tail=μ.rs;rw [l.rsv,h.rs];rfl⟩
 ·have n2:a∉μ2.pl:=λz=>(h.r.new a z).elim n λq=>by rw [e] at q;cases q
  exact l.oth a o (h.r.oth a o e n) n2
 ·rcases l.new a m with q | q
  ·exact h.r.new a q
  ·by_cases mm:a∈μ.pl
   ·exact .inl mm
   ·right
    cases e:H a with
    | none=>rfl
    | some o=>rw [h.r.oth a o e mm] at q;cases q
theorem HLat.step {μ μ2 μ3:Mp} {H H2 H3:Hp} {p:Addr} (h:HLat μ H p μ2 H2) (l:Lat μ2 H2 μ3 H3):HLat μ H p μ3 H3:=by
 have k:=h.lat l
 refine ⟨⟨k.pre,k.oth,k.new,λa m=>h.r.rsw a (by rw [<- l.rsv];exact m)⟩,by rw [l.rsv];exact h.rs⟩
section
variable {K:PySem.W.Frag} {cl:Nat->Addr} {xe:Addr->Hp->Prop} {α β:Type} {μ μ2:Mp} {H H2:Hp} {p:Addr} {S:Sto}
theorem Post.at {m:M α} {k:α->M β} {G:β->Sto->Mp->Hp->Prop} (h:Post K cl xe μ H (L3.bind m k S) G) (l:HLat μ H p μ2 H2):Post K cl xe μ2 H2 (m S) (λa S' _ _=>Post K cl xe μ H (k a S') G):=by
 unfold L3.bind at h
 cases e:m S with
 | ok a S1=>rw [e] at h;exact λ_ _ _ _=>h
 | exn n S1=>rw [e] at h;exact λμ' H' a k r q=>h μ'.free H' a (l.lat k) (a0o r) q
 | bad=>rw [e] at h;exact h
end
noncomputable def A8 (src:Src) (t:Env->M Bool) (f:Env->M D) (mk:D->Env):Nat->Nat->List D->M (List D)
 | 0,_,_=>bad
 | m+1,i,es=>λS=>match src i S with
  | none=>.bad
  | some none=>.ok es S
  | some (some d)=>bind (t (mk d)) (λb=>if b=true then bind (f (mk d)) (λy=>if es.length<sizeLine then A8 src t f mk m (i+1) (es++[y]) else bad) else A8 src t f mk m (i+1) es) S
noncomputable def y7 (caps:List Nat) (ρ:Env):Env:=caps.map λi=>(ρ[i]?).join
theorem Y8 {K:PySem.W.Frag} {μ:Mp} {H:Hp} {ρ:Env} {σ:L2.St} {caps:List Nat} {d:D} {x:V} (eo:EnvOk K μ H ρ σ) (r:RD K μ H d x):EnvOk K μ H (some d :: y7 caps ρ) (some x :: v8 caps σ):=by
 refine ⟨by simp [y7,v8],λi e he=>?_⟩
 cases i with
 | zero=>simp at he;subst he;exact ⟨x,rfl,r⟩
 | succ j=>
  have he:(y7 caps ρ)[j]?=some (some e):=he
  unfold y7 at he
  rw [List.getElem?_map] at he
  cases q:caps[j]? with
  | none=>rw [q] at he;cases he
  | some i=>
   rw [q] at he
   have h':(ρ[i]?).join=some e:=Option.some.inj he
   have h2:ρ[i]?=some (some e):=by
    cases q2:ρ[i]? with
    | none=>rw [q2] at h';cases h'
    | some o=>rw [q2] at h';exact congrArg some h'
   obtain ⟨v,e1,r1⟩:=eo.2 i e h2
   refine ⟨v,?_,r1⟩
   show (v8 caps σ)[j]?=_
   unfold v8
   rw [List.getElem?_map,q]
   show some (σ[i]?).join=_
   rw [e1];rfl
noncomputable def a83 (caps:List Nat) (fi:Env->M (Src×Nat)) (t:Env->M Bool) (f:Env->M D) (ρ:Env):M (List D):=bind (fi ρ) λsm=>A8 sm.1 t f (λd=>some d :: y7 caps ρ) sm.2 0 []
theorem a07 {K:PySem.W.Frag} {cl:Nat->Addr} {xe:Addr->Hp->Prop} {caps:List Nat} {fi:Env->M (Src×Nat)} {t:Env->M Bool} {f:Env->M D} {σ:L2.St} {H:Hp} {μ:Mp} {S:Sto} {ρ:Env} {Q:VK} (eo:EnvOk K μ H ρ σ) (rp:Rep K cl μ S H)
  (p:Post K cl xe μ H (a83 caps fi t f ρ S) λds _ μ' H'=>∀ acc ys,LstAt μ' H' acc ys->RDs K μ' H' ds ys->Q (.ref acc) H'):b5b caps (tIt K cl xe fi) (tBo K cl xe t) (tD K cl xe f) σ H Q:=by
 refine ⟨μ,S,ρ,eo,rp,p.bind.imp λsm S1 μ1 H1 l1 r1 p1 J yl acc hacc=>?_⟩
 obtain ⟨src,m0⟩:=sm
 have nrs:acc∉μ1.rs:=r1.notrs hacc
 refine ⟨λi m ys H2=>∃ μ2 S2 es,HLat μ1 H1 acc μ2 H2/\acc∉μ2.pl/\H2 acc=some (.lst ys)/\EnvOk K μ2 H2 ρ σ/\Rep K cl μ2 S2 H2/\RDs K μ2 H2 es ys/\Post K cl xe μ1 H1 (A8 src t f (λd=>some d :: y7 caps ρ) m i es S2) (λds _ μ' H'=>∀ acc ys,LstAt μ' H' acc ys->RDs K μ' H' ds ys->Q (.ref acc) H'),⟨m0,μ1.hold acc,S1,[],?_,r1.notin hacc,d4,a0v r1 hacc (eo.later l1),a01 r1 hacc,.nil,p1⟩,?_⟩
 ·refine ⟨⟨λ_ _ e=>e,λa o e _=>by rw [b9 (d8 e hacc)];exact e,λa m=>.inl m,λa m=>?_⟩,rfl⟩
  rcases List.mem_cons.mp (show a∈acc :: μ1.rs from m) with rfl | m
  ·exact .inr hacc
  ·exact .inl m
 rintro i m ys H2 ⟨μ2,S2,es,hl,npl,e2,eo2,r2,rds2,p2⟩
 refine ⟨e2,?_⟩
 cases m with
 | zero=>exact p2.elim
 | succ m=>
  have y:X4 K cl J i μ2 H2 S2 (src i S2):=yl i μ2 H2 S2 hl.r.u r2
  simp only [A8] at p2
  cases e1:src i S2 with
  | none=>rw [e1] at p2;exact p2.elim
  | some o=>
   rw [e1] at p2 y
   cases o with
   | none=>
    refine .inl ⟨y,p2 μ2.free H2 (hl.lat (Lat.refl _ _)) (a0o r2) acc ys ⟨e2,npl,?_⟩ (a5c rds2)⟩
    show acc∉μ2.rs.tail
    rw [hl.rs];exact nrs
   | some d=>
    obtain ⟨y1,y2⟩:=y
    refine .inr ⟨y1,λx H3 hy=>?_⟩
    obtain ⟨l3,r3,rd3⟩:=y2 x H3 hy
    have h3:=hl.step l3
    refine ⟨μ2,S2,_,Y8 (eo2.later l3) rd3,r3,(Post.at p2 h3).imp λb S5 μ5 H5 l5 r5 p5=>?_⟩
    have h5:=h3.step l5
    have l35:=l3.trans l5
    have a5:H5 acc=some (.lst ys):=l35.oth _ _ e2 npl
    have n5:acc∉μ5.pl:=l35.out e2 npl
    cases b with
    | false=>exact ⟨m,Nat.lt_succ_self _,μ5,S5,es,h5,n5,a5,eo2.later l35,r5,rds2.later l35,p5⟩
    | true=>
     refine c2h ?_
     rw [if_pos rfl] at p5
     refine ⟨μ5,S5,_,(Y8 (eo2.later l3) rd3).later l5,r5,(Post.at p5 h5).imp λyv S6 μ6 H6 l6 r6 p6 v rv=>?_⟩
     have h6:=h5.step l6
     have l36:=l35.trans l6
     have a6:H6 acc=some (.lst ys):=l6.oth _ _ a5 n5
     have n6:acc∉μ6.pl:=l6.out a5 n5
     by_cases hz:es.length<sizeLine
     ·rw [if_pos hz] at p6
      have er:μ6.rs=acc :: μ1.rs:=h6.rs
      refine ⟨a6,by rw [<- rds2.length];exact hz,m,Nat.lt_succ_self _,μ6,S6,es++[yv],?_,n6,d4,?_,a12 er a6 r6,a2i er ((rds2.later l36).append (.cons rv .nil)),p6⟩
      ·refine ⟨⟨h6.r.pre,λa o e n=>?_,h6.r.new,h6.r.rsw⟩,er⟩
       rw [b9 (d8 e hacc)]
       exact h6.r.oth a o e n
      ·have eo6:=eo2.later l36
       exact ⟨eo6.1,λj e he=>let ⟨w,q,r⟩:=eo6.2 j e he;⟨w,q,Z3 er r⟩⟩
     ·rw [if_neg hz] at p6;exact p6.elim
section
variable {X:Cx} {cl:Nat->Addr} {xe:Addr->Hp->Prop} {elt iter:Expr} {x:Str} {px pos:Pos} {ifs:List Expr} {scope:Scope} {N':List Str} {caps:List Nat} {fi:Env->M (Src×Nat)} {t:Env->M Bool} {f:Env->M D}
theorem b1k {X:Cx}:PTL X [] (tBo X.K cl xe λ_=>ret true):=λpins s σ H Q I ⟨μ,S,ρ,eo,rp,p⟩=>c0b pins s σ H Q I (p μ H (Lat.refl _ _) rp)
theorem a4k (T:CompText X.N X.env N' 1 caps scope) (hc:X.calm=true) (hN:N'.Nodup) (hx0:N'[0]?=some x) (hxl:scope.names.lookup x=some .local) (hi:PI X (.Name x px) iter (tIt X.K cl xe fi))
  (ht:∀ pins C fp s H,PTL (c8 X pins N' scope C fp s H) ifs (tBo X.K cl xe t)) (he:∀ pins C fp s H,PE (c8 X pins N' scope C fp s H) elt (tD X.K cl xe f)) (hn:z0 iter=true) :
  PE X (.ListComp elt [⟨.Name x px,iter,ifs,0⟩] scope pos) (λσ H Q=>∃ μ S ρ,EnvOk X.K μ H ρ σ/\Rep X.K cl μ S H/\Post X.K cl xe μ H (a83 caps fi t f ρ S) λds _ μ' H'=>∀ acc ys,LstAt μ' H' acc ys->RDs X.K μ' H' ds ys->Q (.ref acc) H'):=
 PE.imp (b76 T hc hN hx0 hxl hi ht he (E5 hn)) λσ H Q ⟨μ,S,ρ,eo,rp,p⟩=>a07 eo rp p
end
noncomputable def b4b (K:PySem.W.Frag) (cl:Nat->Addr) (xe:Addr->Hp->Prop) (fs:Env->M (List D)):TE:=λσ H Q=>∃ μ S ρ,EnvOk K μ H ρ σ/\Rep K cl μ S H/\Post K cl xe μ H (fs ρ S) λds _ μ' H'=>∀ acc ys,LstAt μ' H' acc ys->RDs K μ' H' ds ys->Q (.ref acc) H'
theorem c1b {α β γ:Type} (m:M α) (k:α->M β) (k2:β->M γ):bind (bind m k) k2=bind m λa=>bind (k a) k2:=by
 funext S
 unfold bind
 cases m S <;> rfl
theorem c75 {α β:Type} {m m':M α} {k:α->M β} {S:Sto} (h:m S=m' S):bind m k S=bind m' k S:=by
 unfold bind;rw [h]
noncomputable def A5 (src:Src) (t:Env->M Bool) (fi1:Env->M (Src×Nat)) (t1:Env->M Bool) (f:Env->M D) (cap:Env):Nat->Nat->List D->M (List D)
 | 0,_,_=>bad
 | m+1,i,es=>λS=>match src i S with
  | none=>.bad
  | some none=>.ok es S
  | some (some d)=>bind (t (some d :: none :: cap)) (λb=>if b=true then bind (fi1 (some d :: none :: cap)) (λsm=>bind (A8 sm.1 t1 f (λd2=>some d :: some d2 :: cap) sm.2 0 es) (λes'=>A5 src t fi1 t1 f cap m (i+1) es')) else A5 src t fi1 t1 f cap m (i+1) es) S
theorem c1j {K:PySem.W.Frag} {μ:Mp} {H:Hp} {ρ:Env} {σ:L2.St} {caps:List Nat} {d:D} {x:V} (eo:EnvOk K μ H ρ σ) (r:RD K μ H d x):EnvOk K μ H (some d :: none :: y7 caps ρ) (some x :: none :: v8 caps σ):=by
 have h:=Y8 (caps:=caps) eo r
 refine ⟨by have:=h.1;simp at this ⊢;exact this,λi e he=>?_⟩
 match i with
 | 0=>exact h.2 0 e he
 | 1=>simp at he
 | i+2=>exact h.2 (i+1) e he
theorem c08 {K:PySem.W.Frag} {μ:Mp} {H:Hp} {ρ:Env} {σ:L2.St} {caps:List Nat} {d d2:D} {x y:V} (eo:EnvOk K μ H ρ σ) (r:RD K μ H d x) (r2:RD K μ H d2 y):EnvOk K μ H (some d :: some d2 :: y7 caps ρ) (some x :: some y :: v8 caps σ):=by
 have h:=Y8 (caps:=caps) eo r
 refine ⟨by have:=h.1;simp at this ⊢;exact this,λi e he=>?_⟩
 match i with
 | 0=>exact h.2 0 e he
 | 1=>simp at he;subst he;exact ⟨y,rfl,r2⟩
 | i+2=>exact h.2 (i+1) e he
noncomputable def a3y (caps:List Nat) (fi:Env->M (Src×Nat)) (t:Env->M Bool) (fi1:Env->M (Src×Nat)) (t1:Env->M Bool) (f:Env->M D) (ρ:Env):M (List D):=bind (fi ρ) λsm=>A5 sm.1 t fi1 t1 f (y7 caps ρ) sm.2 0 []
theorem a4g {K:PySem.W.Frag} {cl:Nat->Addr} {xe:Addr->Hp->Prop} {caps:List Nat} {fi fi1:Env->M (Src×Nat)} {t t1:Env->M Bool} {f:Env->M D} {σ:L2.St} {H:Hp} {μ:Mp} {S:Sto} {ρ:Env} {Q:VK} (eo:EnvOk K μ H ρ σ) (rp:Rep K cl μ S H)
  (p:Post K cl xe μ H (a3y caps fi t fi1 t1 f ρ S) λds _ μ' H'=>∀ acc ys,LstAt μ' H' acc ys->RDs K μ' H' ds ys->Q (.ref acc) H'):b58 caps (tIt K cl xe fi) (tBo K cl xe t) (tIt K cl xe fi1) (tBo K cl xe t1) (tD K cl xe f) σ H Q:=by
 refine ⟨μ,S,ρ,eo,rp,p.bind.imp λsm S1 μ1 H1 l1 r1 p1 J yl acc hacc=>?_⟩
 obtain ⟨src,m0⟩:=sm
 have nrs:acc∉μ1.rs:=r1.notrs hacc
 refine ⟨λi m ys H2=>∃ μ2 S2 es,HLat μ1 H1 acc μ2 H2/\acc∉μ2.pl/\H2 acc=some (.lst ys)/\EnvOk K μ2 H2 ρ σ/\Rep K cl μ2 S2 H2/\RDs K μ2 H2 es ys/\Post K cl xe μ1 H1 (A5 src t fi1 t1 f (y7 caps ρ) m i es S2) (λds _ μ' H'=>∀ acc ys,LstAt μ' H' acc ys->RDs K μ' H' ds ys->Q (.ref acc) H'),⟨m0,μ1.hold acc,S1,[],?_,r1.notin hacc,d4,a0v r1 hacc (eo.later l1),a01 r1 hacc,.nil,p1⟩,?_⟩
 ·refine ⟨⟨λ_ _ e=>e,λa o e _=>by rw [b9 (d8 e hacc)];exact e,λa m=>.inl m,λa m=>?_⟩,rfl⟩
  rcases List.mem_cons.mp (show a∈acc :: μ1.rs from m) with rfl | m
  ·exact .inr hacc
  ·exact .inl m
 rintro i m ys H2 ⟨μ2,S2,es,hl,npl,e2,eo2,r2,rds2,p2⟩
 refine ⟨e2,?_⟩
 cases m with
 | zero=>exact p2.elim
 | succ m=>
  have y:X4 K cl J i μ2 H2 S2 (src i S2):=yl i μ2 H2 S2 hl.r.u r2
  simp only [A5] at p2
  cases e1:src i S2 with
  | none=>rw [e1] at p2;exact p2.elim
  | some o=>
   rw [e1] at p2 y
   cases o with
   | none=>
    refine .inl ⟨y,p2 μ2.free H2 (hl.lat (Lat.refl _ _)) (a0o r2) acc ys ⟨e2,npl,?_⟩ (a5c rds2)⟩
    show acc∉μ2.rs.tail
    rw [hl.rs];exact nrs
   | some d=>
    obtain ⟨y1,y2⟩:=y
    refine .inr ⟨y1,λx H3 hy=>?_⟩
    obtain ⟨l3,r3,rd3⟩:=y2 x H3 hy
    have h3:=hl.step l3
    refine ⟨μ2,S2,_,c1j (eo2.later l3) rd3,r3,(Post.at p2 h3).imp λb S5 μ5 H5 l5 r5 p5=>?_⟩
    have h5:=h3.step l5
    have l35:=l3.trans l5
    have a5:H5 acc=some (.lst ys):=l35.oth _ _ e2 npl
    have n5:acc∉μ5.pl:=l35.out e2 npl
    cases b with
    | false=>exact ⟨m,Nat.lt_succ_self _,μ5,S5,es,h5,n5,a5,eo2.later l35,r5,rds2.later l35,p5⟩
    | true=>
     refine c2h ?_
     rw [if_pos rfl] at p5
     refine ⟨μ5,S5,_,(c1j (eo2.later l3) rd3).later l5,r5,(Post.at p5 h5).imp λsm S6 μ6 H6 l6 r6 p6 J1 yl1=>?_⟩
     obtain ⟨src1,m1⟩:=sm
     have h6:=h5.step l6
     have l36:=l35.trans l6
     have a6:H6 acc=some (.lst ys):=l6.oth _ _ a5 n5
     have n6:acc∉μ6.pl:=l6.out a5 n5
     refine ⟨λj m1 zs H7=>∃ μ7 S7 es7,HLat μ1 H1 acc μ7 H7/\LatU μ6 H6 μ7 H7/\acc∉μ7.pl/\H7 acc=some (.lst zs)/\EnvOk K μ7 H7 ρ σ/\Rep K cl μ7 S7 H7/\RDs K μ7 H7 es7 zs/\RD K μ7 H7 d x /\
      Post K cl xe μ1 H1 (bind (A8 src1 t1 f (λd2=>some d :: some d2 :: y7 caps ρ) m1 j es7) (λes'=>A5 src t fi1 t1 f (y7 caps ρ) m (i+1) es') S7) (λds _ μ' H'=>∀ acc ys,LstAt μ' H' acc ys->RDs K μ' H' ds ys->Q (.ref acc) H'),
      ⟨m1,μ6,S6,es,h6,(Lat.refl _ _).r.u,n6,a6,eo2.later l36,r6,rds2.later l36,(rd3.later l5).later l6,p6⟩,?_⟩
     rintro j m1 zs H7 ⟨μ7,S7,es7,h7,u7,n7,a7,eo7,r7,rds7,rd7,p7⟩
     refine ⟨a7,?_⟩
     cases m1 with
     | zero=>exact p7.elim
     | succ m1=>
      have z:X4 K cl J1 j μ7 H7 S7 (src1 j S7):=yl1 j μ7 H7 S7 u7 r7
      cases f1:src1 j S7 with
      | none=>
       have:bind (A8 src1 t1 f (λd2=>some d :: some d2 :: y7 caps ρ) (m1+1) j es7) (λes'=>A5 src t fi1 t1 f (y7 caps ρ) m (i+1) es') S7=.bad:=by
        unfold bind;simp only [A8,f1]
       rw [this] at p7;exact p7.elim
      | some o=>
       rw [f1] at z
       cases o with
       | none=>
        have:bind (A8 src1 t1 f (λd2=>some d :: some d2 :: y7 caps ρ) (m1+1) j es7) (λes'=>A5 src t fi1 t1 f (y7 caps ρ) m (i+1) es') S7=A5 src t fi1 t1 f (y7 caps ρ) m (i+1) es7 S7:=by
         conv=>lhs;unfold bind
         simp only [A8,f1]
        rw [this] at p7
        exact .inl ⟨z,m,Nat.lt_succ_self _,μ7,S7,es7,h7,n7,a7,eo7,r7,rds7,p7⟩
       | some d2=>
        have un:bind (A8 src1 t1 f (λd2=>some d :: some d2 :: y7 caps ρ) (m1+1) j es7) (λes'=>A5 src t fi1 t1 f (y7 caps ρ) m (i+1) es') S7 =
          bind (t1 (some d :: some d2 :: y7 caps ρ)) (λb=>bind (if b=true then bind (f (some d :: some d2 :: y7 caps ρ)) (λy=>if es7.length<sizeLine then A8 src1 t1 f (λd2=>some d :: some d2 :: y7 caps ρ) m1 (j+1) (es7++[y]) else bad) else A8 src1 t1 f (λd2=>some d :: some d2 :: y7 caps ρ) m1 (j+1) es7) (λes'=>A5 src t fi1 t1 f (y7 caps ρ) m (i+1) es')) S7:=by
         rw [<- c1b]
         exact c75 (by simp only [A8,f1])
        rw [un] at p7
        obtain ⟨z1,z2⟩:=z
        refine .inr ⟨z1,λyv H8 hy2=>?_⟩
        obtain ⟨l8,r8,rd8⟩:=z2 yv H8 hy2
        have h8:=h7.step l8
        have rdx:=rd7.later l8
        refine ⟨μ7,S7,_,c08 (eo7.later l8) rdx rd8,r8,(Post.at p7 h8).imp λb2 S9 μ9 H9 l9 r9 p9=>?_⟩
        have h9:=h8.step l9
        have l89:=l8.trans l9
        have a9:H9 acc=some (.lst zs):=l89.oth _ _ a7 n7
        have n9:acc∉μ9.pl:=l89.out a7 n7
        have ustep:∀ {μx:Mp} {Hx:Hp},Lat μ7 H7 μx Hx->LatU μ6 H6 μx Hx:=λ{μx Hx} l=>by
         refine ⟨λn a e=>l.pre n a (u7.pre n a e),λa o e n1 n2=>?_,λa mm=>?_,λa mm=>?_⟩
         ·obtain ⟨q1,q2,q3⟩:=u7.out a o e n1 n2
          exact l.oth a o q1 q2
         ·rcases l.new a mm with q | q
          ·exact u7.new a q
          ·by_cases n1:a∈μ6.pl
           ·exact .inl n1
           ·by_cases n2:a∈μ6.rs
            ·exfalso
             obtain ⟨_,w,hw⟩:=r7.res a (by rw [h7.rs,<- h6.rs];exact n2)
             rw [hw] at q;cases q
            ·right
             cases e:H6 a with
             | none=>rfl
             | some o=>rw [(u7.out a o e n1 n2).1] at q;cases q
         ·exact u7.rsw a (by rw [<- l.rsv];exact mm)
        cases b2 with
        | false=>exact ⟨m1,Nat.lt_succ_self _,μ9,S9,es7,h9,ustep l89,n9,a9,eo7.later l89,r9,rds7.later l89,rd7.later l89,p9⟩
        | true=>
         refine c2h ?_
         rw [if_pos rfl] at p9
         rw [c1b] at p9
         refine ⟨μ9,S9,_,(c08 (eo7.later l8) rdx rd8).later l9,r9,(Post.at p9 h9).imp λyy S10 μ10 H10 l10 r10 p10 v rv=>?_⟩
         have h10:=h9.step l10
         have l810:=l89.trans l10
         have a10:H10 acc=some (.lst zs):=l10.oth _ _ a9 n9
         have n10:acc∉μ10.pl:=l10.out a9 n9
         by_cases hz:es7.length<sizeLine
         ·rw [if_pos hz] at p10
          have er:μ10.rs=acc :: μ1.rs:=h10.rs
          have u10:=ustep l810
          refine ⟨a10,by rw [<- rds7.length];exact hz,m1,Nat.lt_succ_self _,μ10,S10,es7++[yy],?_,?_,n10,d4,?_,a12 er a10 r10,a2i er ((rds7.later l810).append (.cons rv .nil)),Z3 er (rd7.later l810),p10⟩
          ·refine ⟨⟨h10.r.pre,λa o e n=>?_,h10.r.new,h10.r.rsw⟩,er⟩
           rw [b9 (d8 e hacc)]
           exact h10.r.oth a o e n
          ·refine ⟨u10.pre,λa o e n1 n2=>?_,u10.new,u10.rsw⟩
           have:a≠acc:=λq=>n2 (by rw [h6.rs,q];exact List.mem_cons_self ..)
           rw [b9 this]
           exact u10.oth a o e n1 n2
          ·have eo6:=eo7.later l810
           exact ⟨eo6.1,λj e he=>let ⟨w,q,r⟩:=eo6.2 j e he;⟨w,q,Z3 er r⟩⟩
         ·rw [if_neg hz] at p10;exact p10.elim
section
variable {X:Cx} {cl:Nat->Addr} {xe:Addr->Hp->Prop} {elt iter iter2:Expr} {x y:Str} {px py pos:Pos} {ifs ifs2:List Expr} {scope:Scope} {N':List Str} {caps:List Nat} {fi fi1:Env->M (Src×Nat)} {t t1:Env->M Bool} {f:Env->M D}
theorem a93 (T:CompText X.N X.env N' 2 caps scope) (hc:X.calm=true) (hN:N'.Nodup) (hx0:N'[0]?=some x) (hy0:N'[1]?=some y) (hxl:scope.names.lookup x=some .local) (hyl:scope.names.lookup y=some .local) (hi:PI X (.Name x px) iter (tIt X.K cl xe fi))
  (ht:∀ pins C fp s H,PTL (c8 X pins N' scope C fp s H) ifs (tBo X.K cl xe t)) (hi1:∀ pins C fp s H,PI (c8 X pins N' scope C fp s H) (.Name y py) iter2 (tIt X.K cl xe fi1)) (ht1:∀ pins C fp s H,PTL (c8 X pins N' scope C fp s H) ifs2 (tBo X.K cl xe t1))
  (he:∀ pins C fp s H,PE (c8 X pins N' scope C fp s H) elt (tD X.K cl xe f)) (hn:z0 iter=true) (hn2:z0 iter2=true) :
  PE X (.ListComp elt [⟨.Name x px,iter,ifs,0⟩,⟨.Name y py,iter2,ifs2,0⟩] scope pos) (b4b X.K cl xe (a3y caps fi t fi1 t1 f)):=
 PE.imp (b12 T hc hN hx0 hy0 hxl hyl hi ht hi1 ht1 he (E5 hn) (λ_=>E5 hn2)) λσ H Q ⟨μ,S,ρ,eo,rp,p⟩=>a4g eo rp p
end
end L3
end
section
set_option maxHeartbeats 1000000
namespace L2
open PySem PySem.Spec PyProof.Rows
section
variable {prog:Program} {w:World} {A:Around} {E:Value->Shared->Prop} {s:Shared}
theorem Q6 {it l:Addr} {i:Nat} {items} {x:Value} {Q:Value->Shared->Prop} (hit:s.heap.IsTupleIter it l i)
  (hl:s.heap.IsTuple l items) (hx:items[i]?=some x)
  (hQ:∀ h',h'.IsTupleIter it l (i+1)->Heap.SameBut it s.heap h'->Q x { s with heap:=h' }) :
  wpAny (model prog w) A (Builtin.SmallTypes.nextOf (.ref it)) Q E s:=by
 obtain ⟨o,ho,hc,hd⟩:=id hit
 obtain ⟨ol,hol,_,nl,hdl⟩:=hl
 unfold Builtin.SmallTypes.nextOf
 refine wpAny_bind (wpAny_callSpecial?_slot (name:=Str.ofString "__next__") hit.typeIs F.slot_tuple_iterator_next
  (wpAny_call_entry F.slot_tuple_iterator_next hit.typeIs F.entry_tuple_iterator_next ?_ (F.args_tuple_iterator_next_1 _)))
 show wpAny _ _ (field (.ref it) 0 >>= _) _ _ s
 refine wpAny_bind (wpAny_field ho hd (x:=.ref l) rfl ?_)
 show wpAny _ _ (if (Value.ref l==Value.none)=true then _ else _) _ _ s
 rw [if_neg (show ¬ ((Value.ref l==Value.none)=true) from Bool.false_ne_true)]
 show wpAny _ _ (field (.ref it) 1 >>= _) _ _ s
 refine wpAny_bind (wpAny_field ho hd (x:=.int i 0) rfl ?_)
 show wpAny _ _ (seqItems? (.ref l) >>= _) _ _ s
 refine wpAny_bind (wpAny_seqItems hol hdl ?_)
 simp only [Int.toNat_natCast,hx]
 refine wpAny_bind (wpAny_setField ho hd (by simp) (wpAny_pure ⟨x,rfl,wpAny_pure (hQ _ ?_ (Heap.SameBut.update ..))⟩))
 exact ⟨_,Heap.get?_update_self _ ho (Obj.isFreed_of_fields (Obj.data_mapFields hd _)),(Obj.cls_mapFields ..).trans hc,by
  rw [Obj.data_mapFields hd];simp [rawInt]⟩
theorem U5 {it l:Addr} {i:Nat} {items} {Q:Value->Shared->Prop} (hh:A.handled=none)
  (hit:s.heap.IsTupleIter it l i) (hl:s.heap.IsTuple l items) (hx:items[i]?=none)
  (hE:∀ h' e,Heap.ExtBut it s.heap h'->(∃ o,h'.get? e=some o/\o.cls=.type "StopIteration")->E (.ref e) { s with heap:=h' }) :
  wpAny (model prog w) A (Builtin.SmallTypes.nextOf (.ref it)) Q E s:=by
 obtain ⟨o,ho,hc,hd⟩:=id hit
 obtain ⟨ol,hol,_,nl,hdl⟩:=hl
 unfold Builtin.SmallTypes.nextOf
 refine wpAny_bind (wpAny_callSpecial?_slot (name:=Str.ofString "__next__") hit.typeIs F.slot_tuple_iterator_next
  (wpAny_call_entry F.slot_tuple_iterator_next hit.typeIs F.entry_tuple_iterator_next ?_ (F.args_tuple_iterator_next_1 _)))
 show wpAny _ _ (field (.ref it) 0 >>= _) _ _ s
 refine wpAny_bind (wpAny_field ho hd (x:=.ref l) rfl ?_)
 show wpAny _ _ (if (Value.ref l==Value.none)=true then _ else _) _ _ s
 rw [if_neg (show ¬ ((Value.ref l==Value.none)=true) from Bool.false_ne_true)]
 show wpAny _ _ (field (.ref it) 1 >>= _) _ _ s
 refine wpAny_bind (wpAny_field ho hd (x:=.int i 0) rfl ?_)
 show wpAny _ _ (seqItems? (.ref l) >>= _) _ _ s
 refine wpAny_bind (wpAny_seqItems hol hdl ?_)
 simp only [Int.toNat_natCast,hx]
 refine wpAny_bind (wpAny_rule (wpAny_bind (wpAny_setField ho hd (by simp) ?_)))
 show wpAny _ _ (newExc (.type "StopIteration") [] >>= _) _ _ _
 refine wpAny_bind ?_
 simp only [newExc,newTuple]
 refine wpAny_bind (wpAny_newObj_type ?_ (by size_fits))
 refine wpAny_bind (m:=firstArgMember _ _) (wpAny_of_eq (a:=Value.none) (by first | rfl | (simp only [firstArgMember];rfl)) ?_)
 refine wpAny_newObj_type ?_ (by size_fits)
 simp only [raiseNew]
 refine wpAny_bind (wpAny_handled ?_)
 first | rw [show A.in1.handled=none from hh] | rw [hh]
 refine wpAny_bind (wpAny_pure (wpAny_throw ?_))
 exact hE _ _ (((Heap.SameBut.update ..).extBut.push _).push _) ⟨_,Heap.get?_push_size _ rfl,rfl⟩
end
theorem b1z {h h':Heap} {a:Addr} {items:Array Value} (x:h.IsTuple a items) (k:∀ o,h.get? a=some o->h'.get? a=some o):h'.IsTuple a items:=let ⟨o,ho,r⟩:=x;⟨o,k o ho,r⟩
theorem b3b {prog:Program} {w:World} {A:Around} (hh:A.handled=none) (it l:Addr) (hne:l≠it) (items:Array Value) :
  Draws prog w A it [it,l] items.size (λi v=>items[i]?=some v) (λi h=>h.IsTupleIter it l i/\h.IsTuple l items) where
 live:=λ_ _ st=>let ⟨o,ho,_⟩:=st.1;⟨o,ho⟩
 frame:=λ_ _ _ st hk=>⟨(let ⟨o,ho,r⟩:=st.1;⟨o,hk it (by simp) o ho,r⟩),b1z st.2 λo e=>hk l (by simp) o e⟩
 item:=λi s Q E hi st hQ=>by
  refine Q6 st.1 st.2 (x:=items[i]) (by simp [hi]) λh' hit' hs'=>?_
  exact hQ _ h' s.toks (by simp [hi]) ⟨hit',st.2.extBut hs'.extBut hne⟩ hs'
 done:=λs Q E st hE=>U5 hh st.1 st.2 (by simp) hE
theorem a4w (l:Addr) (items:Array Value) (n:Nat) (dct:Option Addr) (sl:Array (Option Value)) :
  Meets (Builtin.«enumerate.__new__» ⟨[.type "enumerate",.ref l],[]⟩) (λ_ R s=>s.heap.get? l=some { cls:=.type "tuple",dict:=dct,data:=.seq items n,slots:=sl } /\
   R (.ok (.ret (.ref (s.heap.push { cls:=.type "tuple_iterator",data:=.fields #[.ref l,.int 0 0] }).objs.size)))
    { s with heap:=(s.heap.push { cls:=.type "tuple_iterator",data:=.fields #[.ref l,.int 0 0] }).push { cls:=.type "enumerate",data:=.fields #[.none,.bool false,.ref s.heap.objs.size,rawInt 0,.none,.none] } }):=
 .of_wp λprog w A R s h=>by
  obtain ⟨hp,g,d,tk,os⟩:=s;obtain ⟨hl,h⟩:=h
  have hsub:=sub_enumerate
  have hL:Heap.IsTuple (Shared.heap ⟨hp,g,d,tk,os⟩) l items:=⟨_,hl,rfl,n,rfl⟩
  wp_walk using AutoSeq1.wpAny_loadPart' hl
  refine wpAny_stack_any λst=>wpAny_pure ?_
  split
  ·rename_i c _ _ _ _ _
   cases (c==Value.type "enumerate")
   ·wp_walk using AutoSeq1.wpAny_loadPart' hl,wpAny_pyIter_tuple hL
    exact ⟨_,rfl,h⟩
   ·wp_walk using AutoSeq1.wpAny_loadPart' hl,wpAny_pyIter_tuple hL
    exact ⟨_,rfl,h⟩
  ·wp_walk using AutoSeq1.wpAny_loadPart' hl,wpAny_pyIter_tuple hL
   exact ⟨_,rfl,h⟩
section
variable {prog:Program} {w:World} {A:Around} {E:Value->Shared->Prop} {s:Shared}
theorem a6n {l:Addr} {items:Array Value} {Q:Value->Shared->Prop} (hL:s.heap.IsTuple l items)
  (h:∀ h',IsEnum h' (s.heap.objs.size+1) s.heap.objs.size 0 .none->h'.IsTupleIter s.heap.objs.size l 0->h'.objs.size=s.heap.objs.size+2 ->
   (∀ b o,s.heap.get? b=some o->h'.get? b=some o)->Q (.ref (s.heap.objs.size+1)) { s with heap:=h' }) :
  wpAny (model prog w) A (call (.type "enumerate") [.ref l]) Q E s:=by
 obtain ⟨⟨c,dct,dt,sl⟩,hl,hc,n,hd⟩:=hL
 replace hc:c=.type "tuple":=hc
 replace hd:dt=.seq items n:=hd
 subst hc hd
 refine callType_new F.called_enumerate (by decide) (F.typeCall_enumerate_1 _) (F.newCall_enumerate_1 _) (λobj=>F.args_object_init_2 obj _) F.entry_enumerate_new
  (a4w l items n dct sl) ⟨hl,?_⟩
 have hz:(s.heap.push { cls:=.type "tuple_iterator",data:=.fields #[.ref l,.int 0 0] }).objs.size=s.heap.objs.size+1:=Heap.size_push ..
 show _/\_
 rw [hz]
 have he:IsEnum ((s.heap.push { cls:=.type "tuple_iterator",data:=.fields #[.ref l,.int 0 0] }).push
   { cls:=.type "enumerate",data:=.fields #[.none,.bool false,.ref s.heap.objs.size,rawInt 0,.none,.none] }) (s.heap.objs.size+1) s.heap.objs.size 0 .none:=by
  have:=Heap.get?_push_size (s.heap.push { cls:=.type "tuple_iterator",data:=.fields #[.ref l,.int 0 0] })
   (o:={ cls:=.type "enumerate",data:=.fields #[.none,.bool false,.ref s.heap.objs.size,rawInt 0,.none,.none] }) rfl
  rw [hz] at this;exact this
 refine ⟨⟨_,he,rfl⟩,h _ he ⟨_,Heap.get?_push_of_some _ (Heap.get?_push_size _ rfl),rfl,rfl⟩ (by rw [Heap.size_push,hz]) λb o x=>Heap.get?_push_of_some _ (Heap.get?_push_of_some _ x)⟩
end
section
variable {X:Cx} {pins:List (Addr×Obj)} {σ:St} {H:Hp} {s:Shared} {h':Heap}
theorem Inv.turned2 {t':Nat} {e it:Addr} (I:Inv X pins σ H s) (k:∀ b o,b≠e->b≠it->s.heap.get? b=some o->h'.get? b=some o) (f:J3 X pins H e) (g:J3 X pins H it):Inv X pins σ H { s with heap:=h',toks:=t' }:=by
 obtain ⟨a0,a1,a2,a3,a4,a5⟩:=f
 obtain ⟨b0,b1,b2,b3,b4,b5⟩:=g
 have nit:∀ b u,H b=some u->b≠e/\b≠it:=λb u q=>⟨λz=>(by rw [z,a0] at q;cases q),λz=>(by rw [z,b0] at q;cases q)⟩
 have kk:∀ b o,b∉[e,it]->s.heap.get? b=some o->h'.get? b=some o:=λb o hb q=>k b o (λz=>hb (by simp [z])) (λz=>hb (by simp [z])) q
 refine I.step (g':=s.gens) (d':=s.drawn) (ch:=[e,it]) (λb hb=>?_) (λb o _ _ hc q _=>kk b o hc q) (λb o _ _ hc q _=>⟨o.slots,kk b o hc q⟩) (λ_ _ _ _ n=>n)
  (λb o hc q=>⟨o,kk b o hc q⟩) (λ_ _ q=>q) (λ_ _ _ q=>q) (λb ps q=>⟨#[],by rw [q];simp⟩) (λm hm=>?_) (λb u q=>?_) I.bare
 ·have z:b=e\/b=it:=by simpa using hb
  rcases z with rfl | rfl
  ·exact ⟨a3,a1,a4,a5⟩
  ·exact ⟨b3,b1,b4,b5⟩
 ·obtain ⟨o,es,ep,ho,r⟩:=hm
  exact ⟨o,es,ep,k _ o (Ne.symm a1) (Ne.symm b1) ho,r⟩
 ·refine (I.hok b u q).stay (λc v hc r=>?_) (λ_ r=>r) λ_ _ r=>r
  rcases hc with z | z
  ·rw [z] at r ⊢;exact k b v (nit b u q).1 (nit b u q).2 r
  ·exact k c v (nit c _ z).1 (nit c _ z).2 r
end
noncomputable def G3 (Sq:Hp->List V->Prop):It:=
 ⟨λi H=>∃ xs x,Sq H xs/\xs[i]?=some x,λi H x H'=>∃ p y,x=.ref p/\H p=none/\H'=upd H p (.tup [.int (i:Int),y])/\∀ xs,Sq H xs->xs[i]?=some y,λi H=>∃ xs,Sq H xs/\xs.length=i⟩
section
variable {P:Program} {w:World} {K:PySem.W.Frag} {elts:List Expr} {x1:Nat} {tp:Pos}
theorem a2l {X:Cx} {pins:List (Addr×Obj)} {σ:St} {H:Hp} {s:Shared} {E:Value->Shared->Prop} {e it:Addr} {fp:List Addr} {n i:Nat} {Pv:Nat->Value->Prop} {Sv:Nat->Heap->Prop} {old:Value} {y:V} {J:It} {tn:Nat->Heap->Prop}
  (I:Inv X pins σ H s) (hf:∀ b∈[e,it],J3 X pins H b) (D:Draws X.prog X.w X.A.in1 it fp n Pv Sv) (he:IsEnum s.heap e it i old) (hst:Sv i s.heap) (hlt:i<n) (hne:e≠it) (hef:e∉fp)
  (rv:∀ u,Pv i u->RelV y u) (hn:∀ h',(∃ o,IsEnum h' e it ((i:Int)+1) o)->Sv (i+1) h'->tn (i+1) h') (hy:∀ p,H p=none->J.yld i H (.ref p) (upd H p (.tup [.int (i:Int),y]))) :
  wpAny (model X.prog X.w) X.A (pyNext (.ref e)) (λr s1=>∃ u,r=some u /\
   wpAny (model X.prog X.w) X.A (letOwnedTupleGo (.Tuple elts x1 tp) (.ref e) u) (λ_ s2=>∃ x H',Inv X pins σ H' s2/\RelV x u/\J.yld i H x H'/\tn (i+1) s2.heap/\∀ b∈[e,it],H' b=none) E s1) E s:=by
 refine wpAny_pyNext_enum_itemD D he hst hlt hne hef λu h' tk hu ho hs' hT hsz hk=>?_
 have le:e<s.heap.objs.size:=Heap.lt_size he
 have li:it<s.heap.objs.size:=by obtain ⟨_,z⟩:=D.live _ _ hst;exact Heap.lt_size z
 refine ⟨_,rfl,wpAny_letOwnedTupleGo_enum ho λh2 he2 hs2=>?_⟩
 have fr:H s.heap.objs.size=none:=I.hok.fresh (Nat.le_refl _)
 have I1:Inv X pins σ (upd H s.heap.objs.size (.tup [.int (i:Int),y])) { s with heap:=s.heap.push { cls:=.type "tuple",data:=.seq #[.int i tk,u] },toks:=tk }:=
  I.laid (λb q z=>Heap.get?_push_of_some _ z) (Nat.le_refl _) ⟨by rw [sizeLine_eq];show 2<=16777216;omega,[.int i tk,u],.cons ⟨tk,rfl⟩ (.cons (rv u hu) .nil),⟨_,Heap.get?_push_size _ rfl,rfl,_,rfl,rfl⟩⟩
 have fk:∀ b,J3 X pins H b->b<s.heap.objs.size->J3 X pins (upd H s.heap.objs.size (.tup [.int (i:Int),y])) b:=λb ⟨c0,c1,c2,c3,c4,c5⟩ lb=>⟨by rw [b9 (Nat.ne_of_lt lb)];exact c0,c1,c2,c3,c4,c5⟩
 have I2:=I1.turned2 (e:=e) (it:=it) (h':=h2) (t':=tk+1) (λb o b1 b2 z=>by
  have:=Heap.get?_push_cases z
  rcases this with ⟨rfl,rfl⟩ | z1
  ·exact (hs2.2 _ b1).trans hT
  ·exact (hs2.2 b b1).trans (hk b o b1 b2 z1)) (fk e (hf e (by simp)) le) (fk it (hf it (by simp)) li)
 refine ⟨.ref s.heap.objs.size,_,I2,rfl,hy _ fr,hn _ ⟨_,he2⟩ (D.frame _ _ _ hs' λb hb o z=>(hs2.2 b λq=>hef (q▸hb)).trans z),λb hb=>?_⟩
 have z:b=e\/b=it:=by simpa using hb
 rcases z with rfl | rfl
 ·rw [b9 (Nat.ne_of_lt le)];exact (hf _ (by simp)).1
 ·rw [b9 (Nat.ne_of_lt li)];exact (hf _ (by simp)).1
end
section
variable {P:Program} {w:World} {K:PySem.W.Frag} {elts:List Expr} {x1:Nat} {tp:Pos}
theorem a2b {h:Heap} {e it:Addr} {i:Int} {old:Value} (z:IsEnum h e it i old):∃ o,h.get? e=some o/\∀ v,o.data≠.cell v:=⟨_,z,λv q=>by
 have q':Data.fields _=Data.cell v:=q
 cases q'⟩
theorem a86 {Sq:Hp->List V->Prop} {i:Nat} {H:Hp} {p:Addr} {y:V} (h:H p=none) (k:∀ xs,Sq H xs->xs[i]?=some y):(G3 Sq).yld i H (.ref p) (upd H p (.tup [.int (i:Int),y])):=by
 show ∃ p' y',V.ref p=.ref p'/\H p'=none/\upd H p (.tup [.int (i:Int),y])=upd H p' (.tup [.int (i:Int),y'])/\∀ xs,Sq H xs->xs[i]?=some y'
 exact ⟨p,y,rfl,h,rfl,k⟩
theorem a6q (a e it:Addr) (hne:e≠it):Turn P w K (.Tuple elts x1 tp) (G3 λH xs=>SqL K H a xs) [e,it] e (λi h=>(∃ old,IsEnum h e it ((i:Nat):Int) old)/\h.IsListIter it a i) where
 mem:=by simp
 obj:=λi h st b hb=>by
  have z:b=e\/b=it:=by simpa using hb
  rcases z with rfl | rfl
  ·obtain ⟨old,q⟩:=st.1
   exact a2b q
  ·obtain ⟨o,q,c,d⟩:=st.2
   exact ⟨o,q,λv z=>by rw [d] at z;cases z⟩
 keep:=λi h h' st k=>⟨(let ⟨old,q⟩:=st.1;⟨old,k e (by simp) _ q⟩),st.2.at λo q=>k it (by simp) o q⟩
 item:=by
  intro X hP hw hK hc i pins s σ H E I hf st hg
  subst hP hw hK
  obtain ⟨xs,x,hq,hx⟩:=hg
  obtain ⟨its,rv,p,hz⟩:=I.list hq
  obtain ⟨u,hu,ru⟩:=rv.get hx
  obtain ⟨⟨old,he⟩,hit⟩:=st
  have nit:a≠it:=λz=>by
   obtain ⟨o,q,c,_⟩:=hit
   obtain ⟨o2,q2,c2,_⟩:=p.isList
   rw [z,q] at q2;cases q2;rw [c] at c2;exact absurd c2 (by decide)
  have nea:e≠a:=λz=>by
   obtain ⟨o2,q2,c2,_⟩:=p.isList
   rw [<- z,he] at q2;cases q2;exact absurd (show Value.type "enumerate" = Value.type "list" from c2) (by decide)
  have hlt:i<its.toArray.size:=by
   have:=(List.getElem?_eq_some_iff.mp hu).1
   simpa using this
  refine a2l (y:=x) (J:=G3 λH xs=>SqL X.K H a xs) (tn:=λi h=>(∃ old,IsEnum h e it ((i:Nat):Int) old)/\h.IsListIter it a i) I hf (Draws.list (show X.A.in1.handled=none from I.ok.hd hc) it a nit its.toArray) he ⟨hit,p.isList⟩ hlt hne (by simp [hne,nea]) (λv hv=>?_) (λh' ho hs=>⟨?_,hs.1⟩) λq hq2=>a86 hq2 (λys hy=>by rw [I.list_inj hy hq];exact hx)
  ·have hv':its[i]?=some v:=by simpa using hv
   rw [hu] at hv';cases hv';exact ru
  ·obtain ⟨o,q⟩:=ho
   exact ⟨o,by rw [show ((i+1:Nat):Int)=(i:Int)+1 from rfl];exact q⟩
 done:=by
  intro X hP hw hK hc i pins s σ H E I hf st hg
  subst hP hw hK
  obtain ⟨xs,hq,hx⟩:=hg
  obtain ⟨its,rv,p,hz⟩:=I.list hq
  obtain ⟨⟨old,he⟩,hit⟩:=st
  have hl:=rv.length
  have nit:a≠it:=λz=>by
   obtain ⟨o,q,c,_⟩:=hit
   obtain ⟨o2,q2,c2,_⟩:=p.isList
   rw [z,q] at q2;cases q2;rw [c] at c2;exact absurd c2 (by decide)
  have en:i=its.toArray.size:=by simp;omega
  obtain ⟨f0,f1,f2,f3,f4,f5⟩:=hf it (by simp)
  exact wpAny_pyNext_enum_endD (Draws.list (show X.A.in1.handled=none from I.ok.hd hc) it a nit its.toArray) he ⟨en▸hit,p.isList⟩ λh' eb=>⟨rfl,I.turned (t':=s.toks) (λb o hb q=>eb b o hb q) f0 f1 f3 f4 f5⟩
 self:=λ_ _ _ _ _ st h=>by
  obtain ⟨⟨old,he⟩,_⟩:=st
  exact wpAny_pyIter_enum he h
theorem a7h (a e it:Addr) (hne:e≠it):Turn P w K (.Tuple elts x1 tp) (G3 λH xs=>SqT K H a xs) [e,it] e (λi h=>(∃ old,IsEnum h e it ((i:Nat):Int) old)/\h.IsTupleIter it a i) where
 mem:=by simp
 obj:=λi h st b hb=>by
  have z:b=e\/b=it:=by simpa using hb
  rcases z with rfl | rfl
  ·obtain ⟨old,q⟩:=st.1
   exact a2b q
  ·obtain ⟨o,q,c,d⟩:=st.2
   exact ⟨o,q,λv z=>by rw [d] at z;cases z⟩
 keep:=λi h h' st k=>⟨(let ⟨old,q⟩:=st.1;⟨old,k e (by simp) _ q⟩),st.2.at λo q=>k it (by simp) o q⟩
 item:=by
  intro X hP hw hK hc i pins s σ H E I hf st hg
  subst hP hw hK
  obtain ⟨xs,x,hq,hx⟩:=hg
  obtain ⟨its,rv,p,hz⟩:=I.tuple hq
  have pt:s.heap.IsTuple a its.toArray:=p
  obtain ⟨u,hu,ru⟩:=rv.get hx
  obtain ⟨⟨old,he⟩,hit⟩:=st
  have nit:a≠it:=λz=>by
   obtain ⟨o,q,c,_⟩:=hit
   obtain ⟨o2,q2,c2,_⟩:=pt
   rw [z,q] at q2;cases q2;rw [c] at c2;exact absurd c2 (by decide)
  have nea:e≠a:=λz=>by
   obtain ⟨o2,q2,c2,_⟩:=pt
   rw [<- z,he] at q2;cases q2;exact absurd (show Value.type "enumerate" = Value.type "tuple" from c2) (by decide)
  have hlt:i<its.toArray.size:=by
   have:=(List.getElem?_eq_some_iff.mp hu).1
   simpa using this
  refine a2l (y:=x) (J:=G3 λH xs=>SqT X.K H a xs) (tn:=λi h=>(∃ old,IsEnum h e it ((i:Nat):Int) old)/\h.IsTupleIter it a i) I hf (b3b (show X.A.in1.handled=none from I.ok.hd hc) it a nit its.toArray) he ⟨hit,pt⟩ hlt hne (by simp [hne,nea]) (λv hv=>?_) (λh' ho hs=>⟨?_,hs.1⟩) λq hq2=>a86 hq2 (λys hy=>by rw [I.tuple_inj hy hq];exact hx)
  ·have hv':its[i]?=some v:=by simpa using hv
   rw [hu] at hv';cases hv';exact ru
  ·obtain ⟨o,q⟩:=ho
   exact ⟨o,by rw [show ((i+1:Nat):Int)=(i:Int)+1 from rfl];exact q⟩
 done:=by
  intro X hP hw hK hc i pins s σ H E I hf st hg
  subst hP hw hK
  obtain ⟨xs,hq,hx⟩:=hg
  obtain ⟨its,rv,p,hz⟩:=I.tuple hq
  have pt:s.heap.IsTuple a its.toArray:=p
  obtain ⟨⟨old,he⟩,hit⟩:=st
  have hl:=rv.length
  have nit:a≠it:=λz=>by
   obtain ⟨o,q,c,_⟩:=hit
   obtain ⟨o2,q2,c2,_⟩:=pt
   rw [z,q] at q2;cases q2;rw [c] at c2;exact absurd c2 (by decide)
  have en:i=its.toArray.size:=by simp;omega
  obtain ⟨f0,f1,f2,f3,f4,f5⟩:=hf it (by simp)
  exact wpAny_pyNext_enum_endD (b3b (show X.A.in1.handled=none from I.ok.hd hc) it a nit its.toArray) he ⟨en▸hit,pt⟩ λh' eb=>⟨rfl,I.turned (t':=s.toks) (λb o hb q=>eb b o hb q) f0 f1 f3 f4 f5⟩
 self:=λ_ _ _ _ _ st h=>by
  obtain ⟨⟨old,he⟩,_⟩:=st
  exact wpAny_pyIter_enum he h
end
section
variable {X:Cx} {elts:List Expr} {x1:Nat} {tp:Pos}
theorem a95:bootBuiltins "enumerate" = some (.type "enumerate"):=by decide +kernel
theorem b8y {l:Expr} {ta:TA} {p pos:Pos} (hg:Gl X "enumerate") (hm:X.mg "enumerate" = none) (ha:PA X [l] ta) (hs:starEach [l] X.env=[(false,eval l X.env)]) :
  PI X (.Tuple elts x1 tp) (.Call (.Name "enumerate" p) [l] [] pos) (λσ H R=>ta σ H λvs H1=>∃ a,vs=[.ref a]/\(((∃ xs,SqL X.K H1 a xs)/\R (G3 λH xs=>SqL X.K H a xs) H1)\/((∃ xs,SqT X.K H1 a xs)/\R (G3 λH xs=>SqT X.K H a xs) H1))):=by
 intro pins s σ H R I h
 refine Call_ (J8 I hg hm a95 (PyProof.Rows.callWith_type1 (thn (ha pos pins s σ H _ I h) λus s1 ⟨vs,H1,I1,r1,q1⟩=>?_) hs rfl))
 obtain ⟨a,e,q1⟩:=q1
 subst e
 cases r1 with
 | cons r rr=>
  cases rr
  cases r
  have fp:∀ h':Heap,h'.objs.size=s1.heap.objs.size+2->∀ b∈[s1.heap.objs.size+1,s1.heap.objs.size],J3 X pins H1 b:=λh' _ b hb=>by
   have z:b=s1.heap.objs.size+1\/b=s1.heap.objs.size:=by simpa using hb
   rcases z with rfl | rfl
   ·exact I1.fpOk (Nat.le_succ _) (I1.hok.fresh (Nat.le_succ _))
   ·exact I1.fpOk (Nat.le_refl _) (I1.hok.fresh (Nat.le_refl _))
  rcases q1 with ⟨⟨xs,hq⟩,q⟩ | ⟨⟨xs,hq⟩,q⟩
  ·obtain ⟨its,rv,p,hz⟩:=I1.list hq
   refine call_enumerate_list p.isList λh' he hi hsz hk=>?_
   exact wpAny_pyIter_enum he ⟨_,[s1.heap.objs.size+1,s1.heap.objs.size],_,_,H1,rfl,I1.kept (t':=s1.toks) hk,a6q a _ _ (Nat.succ_ne_self _),⟨⟨_,he⟩,hi⟩,fp h' hsz,q⟩
  ·obtain ⟨its,rv,p,hz⟩:=I1.tuple hq
   refine a6n (show s1.heap.IsTuple a its.toArray from p) λh' he hi hsz hk=>?_
   exact wpAny_pyIter_enum he ⟨_,[s1.heap.objs.size+1,s1.heap.objs.size],_,_,H1,rfl,I1.kept (t':=s1.toks) hk,a7h a _ _ (Nat.succ_ne_self _),⟨⟨_,he⟩,hi⟩,fp h' hsz,q⟩
end
end L2
end
section
set_option maxHeartbeats 1000000
namespace L3
open PySem PySem.Spec PyProof.Rows L2
noncomputable def a1w (ds:List D):Src:=λi _=>match ds[i]? with
 | some d=>some (some (.tup [.int (i:Int),d]))
 | none=>if i=ds.length then some none else none
noncomputable def a8f (d:D):M (Src×Nat):=match d with
 | .tup ds=>ret (a1w ds,ds.length+1)
 | .lst ds=>ret (a1w ds,ds.length+1)
 | .scr ds=>ret (a1w ds,ds.length+1)
 | _=>bad
section
variable {K:PySem.W.Frag} {cl:Nat->Addr} {μ:Mp} {H:Hp}
theorem c1l {Sq:Hp->List V->Prop} {xs:List V} {ds:List D} (hl:∀ μ2 H2 S2,LatU μ H μ2 H2->Rep K cl μ2 S2 H2->Sq H2 xs) (r:RDs K μ H ds xs):Yl K cl (G3 Sq) μ H (a1w ds):=λi μ2 H2 S2 l rp=>by
 have hq:=hl μ2 H2 S2 l rp
 have r2:=r.laterU l
 show X4 K cl (G3 Sq) i μ2 H2 S2 (match ds[i]? with
  | some d=>some (some (.tup [.int (i:Int),d]))
  | none=>if i=ds.length then some none else none)
 cases e:ds[i]? with
 | none=>
  show X4 K cl (G3 Sq) i μ2 H2 S2 (if i=ds.length then some none else none)
  by_cases q:i=ds.length
  ·rw [if_pos q]
   exact ⟨xs,hq,by rw [<- r.length];exact q.symm⟩
  ·rw [if_neg q];exact trivial
 | some d=>
  obtain ⟨v,e1,r1⟩:=r2.get e
  refine ⟨⟨xs,v,hq,e1⟩,λx H3 z=>?_⟩
  obtain ⟨p,y,rfl,hp,rfl,q⟩:=z
  have:=q xs hq
  rw [e1] at this
  cases this
  exact M6 rp (.cons (.int _) (.cons r1 .nil)) hp
theorem c4a {a:Addr} {xs:List V} {ds:List D} (h:TupAt K μ H a xs) (r:RDs K μ H ds xs):Yl K cl (G3 λH xs=>SqT K H a xs) μ H (a1w ds):=c1l (λμ2 H2 S2 l rp=>by
 rcases h with ⟨q,n1,n2⟩ | q
 ·rcases q with q | ⟨o,q⟩
  ·exact .inl (.inl (l.oth _ _ q n1 n2))
  ·exact .inl (.inr ⟨o,l.oth _ _ q n1 n2⟩)
 ·obtain ⟨o,its,n,c1,c2,c3,c4,c5,_⟩:=q
  exact .inr ⟨o,its,n,c1,c2,c3,c4,c5⟩) r
theorem b59 {a:Addr} {xs:List V} {ds:List D} (h:LstAt μ H a xs\/ScrAt K μ H a xs) (r:RDs K μ H ds xs):Yl K cl (G3 λH xs=>SqL K H a xs) μ H (a1w ds):=c1l (λμ2 H2 S2 l rp=>by
 rcases h with ⟨q,n1,n2⟩ | ⟨q,n1,n2⟩ | q
 ·exact .inl (.inl (l.oth _ _ q n1 n2))
 ·rcases q with q | ⟨o,q⟩
  ·exact .inl (.inl (l.oth _ _ q n1 n2))
  ·exact .inl (.inr ⟨o,l.oth _ _ q n1 n2⟩)
 ·exact .inr q) r
end
section
variable {X:Cx} {cl:Nat->Addr} {xe:Addr->Hp->Prop} {elts:List Expr} {x1:Nat} {tp p pos:Pos}
theorem b6e {a:Expr} {fs:Env->M (List D)} (hg:Gl X "enumerate") (hm:X.mg "enumerate" = none) (ha:PA X [a] (tDs X.K cl xe fs)) (hs:noStar a=true) :
  PI X (.Tuple elts x1 tp) (.Call (.Name "enumerate" p) [a] [] pos) (tIt X.K cl xe λρ=>bind (fs ρ) λds=>match ds with
   | [d]=>a8f d
   | _=>bad):=
 PI.imp (b8y hg hm ha (k6 hs)) λσ H R ⟨μ,S,ρ,eo,rp,P⟩=>⟨μ,S,ρ,eo,rp,P.bind.imp λds S1 μ1 H1 l1 r1 p1 vs rvs=>by
  cases rvs with
  | nil=>exact False.elim p1
  | cons h t=>
   cases t with
   | cons _ _=>exact False.elim p1
   | nil=>
    cases h with
    | tup h r=>exact ⟨_,rfl,.inr ⟨⟨_,h.sq⟩,p1.ret μ1 H1 (Lat.refl _ _) r1 _ (c4a h r)⟩⟩
    | lst h r=>exact ⟨_,rfl,.inl ⟨⟨_,h.sq⟩,p1.ret μ1 H1 (Lat.refl _ _) r1 _ (b59 (.inl h) r)⟩⟩
    | scr h r=>exact ⟨_,rfl,.inl ⟨⟨_,h.sq⟩,p1.ret μ1 H1 (Lat.refl _ _) r1 _ (b59 (.inr h) r)⟩⟩
    | _=>exact False.elim p1⟩
end
end L3
end
section
set_option maxHeartbeats 1000000
namespace L2
open PySem PySem.Spec PyProof.Rows
end L2
end
section
set_option maxHeartbeats 1000000
namespace L3
open PySem PySem.Spec PyProof.Rows L2
noncomputable def j5 (d:D):M Bool:=match d with
 | .non=>ret false
 | .bl b=>ret b
 | .int i=>ret (i != 0)
 | .str x=>if x.length<=sizeLine then ret ((x.length:Int) != 0) else bad
 | .ref n=>λS=>match S[n]? with
  | some (.lst ds)=>.ok (!ds.isEmpty) S
  | some (.dct kvs)=>.ok (!kvs.isEmpty) S
  | _=>.bad
 | d=>bind (a1d d) λds=>ret (!ds.isEmpty)
section
variable {K:PySem.W.Frag} {cl:Nat->Addr} {xe:Addr->Hp->Prop} {μ:Mp} {H:Hp} {S:Sto}
theorem M1 {ds:List D} {vs:List V} (r:RDs K μ H ds vs):ds.isEmpty=vs.isEmpty:=by cases r <;> rfl
theorem Y7 {d:D} {v:V} {G:Bool->Sto->Mp->Hp->Prop} (rd:RD K μ H d v) (rp:Rep K cl μ S H) (p:Post K cl xe μ H (j5 d S) G):∃ k,b0u K v H k/\G k S μ H:=by
 cases rd with
 | non=>exact ⟨_,rfl,p μ H (Lat.refl _ _) rp⟩
 | bl b=>exact ⟨_,rfl,p μ H (Lat.refl _ _) rp⟩
 | int i=>exact ⟨_,rfl,p μ H (Lat.refl _ _) rp⟩
 | str x=>
  obtain ⟨hl,p⟩:=Post.guard p
  exact ⟨_,⟨hl,rfl⟩,p μ H (Lat.refl _ _) rp⟩
 | tup h r=>exact ⟨_,.inr (.inl ⟨_,h.sq,by rw [<- M1 r]⟩),p μ H (Lat.refl _ _) rp⟩
 | lst h r=>exact ⟨_,.inl ⟨_,h.sq,by rw [<- M1 r]⟩,p μ H (Lat.refl _ _) rp⟩
 | scr h r=>exact ⟨_,.inl ⟨_,h.sq,by rw [<- M1 r]⟩,p μ H (Lat.refl _ _) rp⟩
 | ref h=>
  rename_i n a
  simp only [j5] at p
  cases q1:S[n]? with
  | none=>rw [q1] at p;exact p.elim
  | some o=>
   rw [q1] at p
   cases o with
   | lst ds=>
    obtain ⟨xs,h1,h2⟩:=rp.ats n _ a q1 h
    exact ⟨_,.inl ⟨xs,.inl (.inl h1),by rw [<- M1 h2]⟩,p μ H (Lat.refl _ _) rp⟩
   | dct kvs=>
    obtain ⟨ks,h1,h2⟩:=rp.ats n _ a q1 h
    refine ⟨_,.inr (.inr ⟨ks,h1,rfl⟩),?_⟩
    have e:kvs.isEmpty=ks.isEmpty:=by cases h2 <;> rfl
    rw [<- e]
    exact p μ H (Lat.refl _ _) rp
   | exc _ _=>exact p.elim
end
section
variable {X:Cx} {cl:Nat->Addr} {xe:Addr->Hp->Prop} {a b e:Expr} {es rest:List Expr} {pos:Pos} {f g:Env->M D}
theorem b3c (h:PE X a (tD X.K cl xe f)) (ht:E6 a=true):PT X a (tBo X.K cl xe λρ=>bind (f ρ) j5):=PT.imp (b24 h (test_of ht)) λσ H Q ⟨μ,S,ρ,eo,rp,p⟩=>
 ⟨μ,S,ρ,eo,rp,p.bind.imp λd S1 μ1 H1 l1 r1 p1 v rv=>Y7 rv r1 p1⟩
theorem c36 (h:PE X a (tD X.K cl xe f)):PE X (.UnaryOp .Not a pos) (tD X.K cl xe λρ=>bind (f ρ) λd=>bind (j5 d) λk=>ret (.bl (!k))):=by
 intro pins s σ H Q I ⟨μ,S,ρ,eo,rp,p⟩
 refine UnaryOp_ (thn (h pins s σ H (λv H1=>∃ k,b0u X.K v H1 k/\Q (.bl (!k)) H1) I ⟨μ,S,ρ,eo,rp,p.bind.imp λd S1 μ1 H1 l1 r1 p1 v rv=>let ⟨k,tv,q⟩:=Y7 rv r1 p1.bind;⟨k,tv,q μ1 H1 (Lat.refl _ _) r1 _ (.bl _)⟩⟩) λv s1 ⟨x,H1,I1,rx,k,tv,q⟩=>?_)
 exact not_of (thn (a20 pins s1 σ H1 x v (λk' H'=>k'=k/\H'=H1) I1 rx ⟨k,tv,rfl,rfl⟩) λc s2 ⟨H2,I2,e1,e2⟩=>by
  subst e1 e2
  exact ⟨.bl (!c),H2,I2,rfl,q⟩)
theorem b6n {op:BoolOp} (h:PE X a (tD X.K cl xe f)):PE X (.BoolOp op [a] pos) (tD X.K cl xe f):=c4p h
theorem c3i (h:PE X a (tD X.K cl xe f)) (k:PE X (.BoolOp .And (b :: rest) pos) (tD X.K cl xe g)):PE X (.BoolOp .And (a :: b :: rest) pos) (tD X.K cl xe λρ=>bind (f ρ) λd=>bind (j5 d) λq=>if q=true then g ρ else ret d):=by
 intro pins s σ H Q I ⟨μ,S,ρ,eo,rp,p⟩
 refine BoolOp_and (thn (h pins s σ H (λv H1=>∃ c,b0u X.K v H1 c/\if c=true then tD X.K cl xe g σ H1 Q else Q v H1) I ⟨μ,S,ρ,eo,rp,p.bind.imp λd S1 μ1 H1 l1 r1 p1 v rv=>?_⟩) λv s1 ⟨x,H1,I1,rx,c,tv,q⟩=>?_)
 ·obtain ⟨c,tv,q⟩:=Y7 rv r1 p1.bind
  refine ⟨c,tv,?_⟩
  cases c with
  | true=>exact ⟨μ1,S1,ρ,eo.later l1,r1,q⟩
  | false=>exact q μ1 H1 (Lat.refl _ _) r1 _ rv
 ·refine thn (a20 pins s1 σ H1 x v (λk' H'=>k'=c/\H'=H1) I1 rx ⟨c,tv,rfl,rfl⟩) λc' s2 ⟨H2,I2,e1,e2⟩=>?_
  subst e1 e2
  cases c' with
  | true=>exact k pins s2 σ H2 Q I2 q
  | false=>exact ⟨x,H2,I2,rx,q⟩
theorem c6n (h:PE X a (tD X.K cl xe f)) (k:PE X (.BoolOp .Or (b :: rest) pos) (tD X.K cl xe g)):PE X (.BoolOp .Or (a :: b :: rest) pos) (tD X.K cl xe λρ=>bind (f ρ) λd=>bind (j5 d) λq=>if q=true then ret d else g ρ):=by
 intro pins s σ H Q I ⟨μ,S,ρ,eo,rp,p⟩
 refine BoolOp_or (thn (h pins s σ H (λv H1=>∃ c,b0u X.K v H1 c/\if c=true then Q v H1 else tD X.K cl xe g σ H1 Q) I ⟨μ,S,ρ,eo,rp,p.bind.imp λd S1 μ1 H1 l1 r1 p1 v rv=>?_⟩) λv s1 ⟨x,H1,I1,rx,c,tv,q⟩=>?_)
 ·obtain ⟨c,tv,q⟩:=Y7 rv r1 p1.bind
  refine ⟨c,tv,?_⟩
  cases c with
  | true=>exact q μ1 H1 (Lat.refl _ _) r1 _ rv
  | false=>exact ⟨μ1,S1,ρ,eo.later l1,r1,q⟩
 ·refine thn (a20 pins s1 σ H1 x v (λk' H'=>k'=c/\H'=H1) I1 rx ⟨c,tv,rfl,rfl⟩) λc' s2 ⟨H2,I2,e1,e2⟩=>?_
  subst e1 e2
  cases c' with
  | true=>exact ⟨x,H2,I2,rx,q⟩
  | false=>exact k pins s2 σ H2 Q I2 q
noncomputable def tPt (K:PySem.W.Frag) (cl:Nat->Addr) (xe:Addr->Hp->Prop) (fp:Env->M (Option Int)):TO:=λσ H Q=>∃ μ S ρ,EnvOk K μ H ρ σ/\Rep K cl μ S H/\Post K cl xe μ H (fp ρ S) λo _ _ H'=>Q o H'
noncomputable def B6 (d:D):M (Option Int):=match d with
 | .int i=>ret (some i)
 | _=>bad
theorem PO.imp {e:Option Expr} {t t':TO} (h:PO X e t) (k:∀ σ H Q,t' σ H Q->t σ H Q):PO X e t':=λpins s σ H Q I q=>h pins s σ H Q I (k σ H Q q)
theorem b9q:PO X none (tPt X.K cl xe λ_=>ret none):=PO.imp b9j λσ H Q ⟨μ,S,ρ,eo,rp,p⟩=>p μ H (Lat.refl _ _) rp
theorem b7q (h:PE X e (tD X.K cl xe f)):PO X (some e) (tPt X.K cl xe λρ=>bind (f ρ) B6):=PO.imp (b7n h) λσ H Q ⟨μ,S,ρ,eo,rp,p⟩=>
 ⟨μ,S,ρ,eo,rp,p.bind.imp λd S1 μ1 H1 l1 r1 p1 v rv=>by
  cases rv with
  | int i=>exact ⟨i,rfl,p1 μ1 H1 (Lat.refl _ _) r1⟩
  | _=>exact False.elim p1⟩
theorem N9 {prog:Program} {w:World} {A:Around} {E:Value->Shared->Prop} {s:Shared} {t sl:Addr} {items:Array Value} {vl vu:Value} {lo hi:Option Int} {Q:Value->Shared->Prop} (ht:IsTup s.heap t items) (hs:s.heap.IsSliceOf sl vl vu .none) (pl:IsPart vl lo) (pu:IsPart vu hi)
  (hw:HT.sIx items.size 0 lo=0/\HT.sIx items.size items.size hi=items.size) (h:Q (.ref t) s):wpAny (model prog w) A (getItem (.ref t) (.ref sl)) Q E s:=by
 obtain ⟨os,hos,hcs,hds⟩:=id hs
 have hTs:s.TypeIs (.ref sl) "slice":=⟨os,hos,hcs⟩
 unfold getItem
 try with_reducible refine wpAny_holding ?_
 first | refine wpAny_bind (wpAny_pure ?_) | skip
 refine wpAny_bind (wpAny_sequenceKey ht.typeIs (by decide) ?_)
 refine wpAny_bind (wpAny_callSpecial?_slot (name:=Str.ofString "__getitem__") ht.typeIs PyProof.Rows.slot_tuple_getitem
  (wpAny_call_entry PyProof.Rows.slot_tuple_getitem ht.typeIs entry_tuple_getitem ?_ (args_tuple_getitem _ _)))
 show wpAny _ _ (Builtin.Tuple.tupleItemsOf (.ref t) >>= _) _ _ s
 refine wpAny_bind (tupleItemsOf_ ht ?_)
 refine wpAny_bind (wpAny_typeOf hTs ?_)
 rw [if_pos (by decide)]
 refine wpAny_bind (HT.sliceApplied_gen hs pl pu ?_)
 have hyes:(((HT.sIx items.size 0 lo:Nat):Int)==0&&(1:Int)==1&&(HT.sIx items.size items.size hi-HT.sIx items.size 0 lo)==items.size)=true:=by
  rw [hw.1,hw.2];simp
 show wpAny _ _ (if (((HT.sIx items.size 0 lo:Nat):Int)==0&&(1:Int)==1&&(HT.sIx items.size items.size hi-HT.sIx items.size 0 lo)==items.size)=true then _ else _) _ _ s
 rw [if_pos hyes]
 refine wpAny_bind (m:=Builtin.Tuple.tupleIsExact (.ref t)) ?_
 unfold Builtin.Tuple.tupleIsExact
 refine wpAny_bind (wpAny_typeOf ht.typeIs (wpAny_pure ?_))
 rw [if_pos (by decide)]
 refine wpAny_bind (wpAny_rule ?_)
 exact wpAny_pure ⟨_,rfl,wpAny_pure h⟩
theorem b6v:SlR X (λx lo hi H Q=>∃ a xs,x=.ref a/\SqT X.K H a xs/\(HT.sIx xs.length 0 lo=0/\HT.sIx xs.length xs.length hi=xs.length)/\Q (.ref a) H):=by
 intro pins s σ H x v vl vu lo hi sl Q I rx hs pl pu h
 obtain ⟨a,xs,rfl,hx,hw,q⟩:=h
 cases rx
 obtain ⟨its,r,ht,hz⟩:=I.tuple hx
 have hlen:its.toArray.size=xs.length:=by rw [List.size_toArray];exact r.length.symm
 exact ⟨"tuple",_,PyProof.Rows.slot_tuple_getitem.lookup,ht.typeIs,N9 ht hs pl pu (by rw [hlen];exact hw) ⟨.ref a,H,I,rfl,q⟩⟩
theorem d2j:SlR X (λx lo hi H Q=>∃ μ S d,RD X.K μ H d x/\Rep X.K cl μ S H/\Post X.K cl xe μ H (slD d lo hi S) λr _ μ' H'=>∀ v,RD X.K μ' H' r v->Q v H'):=by
 intro pins s σ H x v vl vu lo hi sl Q I rx hs pl pu ⟨μ,S,d,rd,rp,p⟩
 have sq:∀ {a:Addr} {xs:List V} {ds:List D},SqL X.K H a xs->RDs X.K μ H ds xs->x=.ref a->(∀ μ' H',Lat μ H μ' H'->Rep X.K cl μ' S H'->∀ w,RD X.K μ' H' (.lst (J0 ds lo hi)) w->Q w H') ->
   ∃ T id,typeLookup (.type T) "__getitem__" = pure (some (.builtin id))/\s.TypeIs v T/\wpAny (model X.prog X.w) X.A (getItem v (.ref sl)) (EP X pins σ Q) X.xe s:=λ{a xs ds} hq r2 hv q=>by
  subst hv
  refine b7p pins s σ H _ v vl vu lo hi sl Q I rx hs pl pu ⟨a,xs,rfl,hq,λz hz=>?_⟩
  obtain ⟨l,rp2,rd2⟩:=T0 rp (b1w r2 lo hi) hz
  exact q μ _ l rp2 _ rd2
 cases rd with
 | tup h r=>
  rename_i a xs ds
  by_cases hw:HT.sIx xs.length 0 lo=0/\HT.sIx xs.length xs.length hi=xs.length
  ·refine b6v pins s σ H _ v vl vu lo hi sl Q I rx hs pl pu ⟨a,xs,rfl,h.sq,hw,?_⟩
   have e:J0 ds lo hi=ds:=by
    unfold J0
    rw [r.length,hw.1,hw.2,List.drop_zero,Nat.sub_zero]
    exact List.take_of_length_le (by rw [r.length];exact Nat.le_refl _)
   exact p μ H (Lat.refl _ _) rp _ (by rw [e];exact .tup h r)
  ·refine c34 pins s σ H _ v vl vu lo hi sl Q I rx hs pl pu ⟨a,xs,rfl,h.sq,hw,λz hz=>?_⟩
   obtain ⟨l,rp2,rd2⟩:=M6 rp (b1w r lo hi) hz
   exact p μ _ l rp2 _ rd2
 | lst h r=>exact sq h.sq r rfl p
 | scr h r=>exact sq h.sq r rfl p
 | ref h=>
  rename_i n a0
  have p2:Post X.K cl xe μ H (bind (lstOf (.ref n)) (λds=>ret (D.lst (J0 ds lo hi))) S) (λr _ μ' H'=>∀ v,RD X.K μ' H' r v->Q v H'):=p
  obtain ⟨a,xs,ds,e1,h1,h2,e2⟩:=u0 (.ref h) rp p2.bind
  exact sq (.inl (.inl h1)) h2 e1 (p2.ok_bind e2)
 | _=>exact False.elim p
theorem c91 {lo hi:Option Expr} {p2:Pos} {fl fh:Env->M (Option Int)} (h:PE X e (tD X.K cl xe f)) (hl:PO X lo (tPt X.K cl xe fl)) (hh:PO X hi (tPt X.K cl xe fh)) :
  PE X (.Subscript e (.Slice lo hi none p2) pos) (tD X.K cl xe λρ=>bind (f ρ) λd=>bind (fl ρ) λl=>bind (fh ρ) λu=>slD d l u):=PE.imp (b2i d2j h hl hh) λσ H Q ⟨μ,S,ρ,eo,rp,p⟩=>
 ⟨μ,S,ρ,eo,rp,p.bind.imp λd S1 μ1 H1 l1 r1 p1 v rv=>⟨μ1,S1,ρ,eo.later l1,r1,p1.bind.imp λl S2 μ2 H2 l2 r2 p2=>⟨μ2,S2,ρ,(eo.later l1).later l2,r2,p2.bind.imp λu S3 μ3 H3 l3 r3 p3=>⟨μ3,S3,d,(rv.later l2).later l3,r3,p3⟩⟩⟩⟩
end
noncomputable def P9 (x k v:D):M D:=match x with
 | .ref n=>λS=>match S[n]? with
  | some (.lst ds)=>match k with
   | .int i=>match ixN ds.length i with
    | some j=>.ok .non (S.set n (.lst (ds.set j v)))
    | none=>.bad
   | _=>.bad
  | some (.dct kvs)=>match D1 k with
   | some key=>if kvs.length<sizeLine then .ok .non (S.set n (.dct (b0y kvs key v))) else .bad
   | none=>.bad
  | _=>.bad
 | _=>bad
theorem a73 {K:PySem.W.Frag} {μ:Mp} {H:Hp} {k:Key}:∀ {kvs:List (Key×D)} {ks:List (Key×V)},KvsAt K μ H kvs ks->(kvs.any λkv=>decide (kv.1=k))=ks.any λkv=>decide (kv.1=k)
 | _,_,.nil=>rfl
 | _,_,.cons ⟨h1,h2⟩ t=>by simp only [List.any_cons,h1,a73 (k:=k) t]
theorem a9d {K:PySem.W.Frag} {μ:Mp} {H:Hp} {k:Key} {d:D} {v:V} (r:RD K μ H d v):∀ {kvs:List (Key×D)} {ks:List (Key×V)},KvsAt K μ H kvs ks->KvsAt K μ H (kvs.map λkv=>if kv.1=k then (kv.1,d) else kv) (ks.map λkv=>if kv.1=k then (kv.1,v) else kv)
 | _,_,.nil=>.nil
 | _,_,.cons (a:=a) (b:=b) ⟨h1,h2⟩ t=>by
  simp only [List.map_cons]
  refine .cons ?_ (a9d r t)
  by_cases hk:b.1=k
  ·rw [if_pos hk,if_pos (h1.trans hk)];exact ⟨h1,r⟩
  ·rw [if_neg hk,if_neg (by rw [h1];exact hk)];exact ⟨h1,h2⟩
theorem Paired.app {α β:Type} {P:α->β->Prop}:∀ {xs xs':List α} {ys ys':List β},Paired P xs ys->Paired P xs' ys'->Paired P (xs++xs') (ys++ys')
 | _,_,_,_,.nil,s=>s
 | _,_,_,_,.cons r t,s=>.cons r (Paired.app t s)
theorem a75 {K:PySem.W.Frag} {μ:Mp} {H:Hp} {k:Key} {d:D} {v:V} {kvs:List (Key×D)} {ks:List (Key×V)} (h:KvsAt K μ H kvs ks) (r:RD K μ H d v):KvsAt K μ H (b0y kvs k d) (B4 ks k v):=by
 unfold b0y B4
 rw [a73 h]
 split
 ·exact a9d r h
 ·exact Paired.app h (.cons ⟨rfl,r⟩ .nil)
theorem KvsAt.later {K:PySem.W.Frag} {μ μ':Mp} {H H':Hp} {kvs:List (Key×D)} {ks:List (Key×V)} (h:KvsAt K μ H kvs ks) (l:Lat μ H μ' H'):KvsAt K μ' H' kvs ks:=Paired.mono (λ_ _ ⟨z,w⟩=>⟨z,w.later l⟩) h
section
variable {X:Cx} {cl:Nat->Addr} {xe:Addr->Hp->Prop} {a b e:Expr} {es rest:List Expr} {pos:Pos} {f g k:Env->M D}
theorem c90 (hu:X.A.units+1<cLine):c2o X (λo i v H Q=>∃ μ S x y z,RD X.K μ H x o/\RD X.K μ H y i/\RD X.K μ H z v/\Rep X.K cl μ S H/\Post X.K cl xe μ H (P9 x y z S) λ_ _ _ H'=>Q H'):=by
 intro pins s σ H o i v ov iv u Q I ro ri rv ⟨μ,S,x,y,z,rx,ry,rz,rp,p⟩
 cases rx with
 | ref h=>
  rename_i n a
  have m:a∈μ.pl:=List.mem_of_getElem? h
  simp only [P9] at p
  cases q1:S[n]? with
  | none=>rw [q1] at p;exact p.elim
  | some ob=>
   rw [q1] at p
   cases ob with
   | lst ds=>
    obtain ⟨xs,h1,h2⟩:=rp.ats n _ a q1 h
    cases ry with
    | int j=>
     simp only at p
     cases q2:ixN ds.length j with
     | none=>rw [q2] at p;exact p.elim
     | some t=>
      rw [q2] at p
      refine b13 pins s σ H _ _ v ov iv u Q I ro ri rv ⟨a,xs,j,t,rfl,rfl,h1,by rw [<- h2.length];exact q2,?_⟩
      exact p μ _ (Lat.wrote m) (rp.wrote h ⟨_,d4,(h2.set rz t).later (Lat.wrote m)⟩)
    | _=>exact False.elim p
   | dct kvs=>
    obtain ⟨ks,h1,h2⟩:=rp.ats n _ a q1 h
    simp only at p
    cases q2:D1 y with
    | none=>rw [q2] at p;exact p.elim
    | some key=>
     rw [q2] at p
     by_cases hl:kvs.length<sizeLine
     ·simp only [if_pos hl] at p
      have hy:=K3 ry q2
      subst hy
      cases ro
      have hl2:ks.length<sizeLine:=by rw [<- Paired.length h2];exact hl
      refine b0g hu I (DPut.k h1 hl2) ri rv λs' I'=>⟨_,I',?_⟩
      exact p μ _ (Lat.wrote m) (rp.wrote h ⟨_,d4,(a75 h2 rz).later (Lat.wrote m)⟩)
     ·simp only [if_neg hl] at p;exact p.elim
   | exc _ _=>exact p.elim
 | _=>exact False.elim p
theorem a9v {a b:Expr} {p2:Pos} {env:PySem.Env} (h:F9 b=true):∀ v,assign (.Subscript a b p2) env v=(do
   let ov <- holding [v] (eval a env)
   let iv <- holding [v,ov] (eval b env)
   standAt p2
   holding [v,ov,iv] (setItem ov iv v)
   release [v,ov,iv] []):=by
 intro v
 cases b <;> first | rfl | (exact absurd h (by simp [F9]))
theorem b3r {p2:Pos} (hu:X.A.units+1<cLine) (he:PE X e (tD X.K cl xe f)) (ho:PE X a (tD X.K cl xe g)) (hi:PE X b (tD X.K cl xe k)) (hn:C5 e=true) (hb:F9 b=true) :
  PS X (.Assign [.Subscript a b p2] e pos) (sD X.K cl xe λρ=>bind (f ρ) λv=>bind (g ρ) λx=>bind (k ρ) λy=>bind (P9 x y v) λ_=>ret (.nx ρ)):=
 PS.imp (a6v he (c24 ho hi (c90 (cl:=cl) (xe:=xe) hu) (a9v hb)) (by unfold swapsWithSole;exact L5 hn) rfl rfl) λD σ H ⟨μ,S,ρ,eo,rp,p⟩=>
  ⟨μ,S,ρ,eo,rp,p.bind.imp λv S1 μ1 H1 l1 r1 p1 vv rv=>⟨μ1,S1,ρ,eo.later l1,r1,p1.bind.imp λx S2 μ2 H2 l2 r2 p2 xv rx=>⟨μ2,S2,ρ,(eo.later l1).later l2,r2,p2.bind.imp λy S3 μ3 H3 l3 r3 p3 yv ry=>
   ⟨μ3,S3,x,y,v,rx.later l3,ry,(rv.later l2).later l3,r3,p3.bind.imp λ_ S4 μ4 H4 l4 r4 p4=>p4.ret μ4 H4 (Lat.refl _ _) r4 σ ((((eo.later l1).later l2).later l3).later l4)⟩⟩⟩⟩
noncomputable def a1i (x:D) (ds:List D):M D:=match x,ds with
 | .ref n,[d]=>λS=>match S[n]? with
  | some (.lst es)=>if es.length<sizeLine then .ok .non (S.set n (.lst (es++[d]))) else .bad
  | _=>.bad
 | _,_=>bad
noncomputable def E9 (es:List Expr):Bool:=decide (es.length<30)
theorem b3n {es:List Expr} {cpos:Pos} (h1:es.all noStar=true) (h2:E9 es=true):((backTo cpos (starEach es X.env)).all (λx=>!x.1)&&(backToKw cpos (keywordEach [] X.env)).all (λx=>x.1.isSome)&&decide (es.length+([]:List Keyword).length+(if ([]:List Keyword).isEmpty then 0 else 1)<30))=true:=by
 rw [a0t h1]
 unfold E9 at h2
 simpa [keywordEach,backToKw] using of_decide_eq_true h2
theorem b06 {fs:Env->M (List D)} {apos cpos:Pos} (ho:PE X a (tD X.K cl xe f)) (ha:PA X (e :: es) (tDs X.K cl xe fs)) (hb:G0 a=true) (hs:(e :: es).all noStar=true) (hf:E9 (e :: es)=true) (hl:(apos.endLine==cpos.line)=true) :
  PE X (.Call (.Attribute a "append" apos) (e :: es) [] cpos) (tD X.K cl xe λρ=>bind (f ρ) λx=>bind (lstOf x) λ_=>bind (fs ρ) λds=>a1i x ds):=by
 have hs2:=hs
 rw [List.all_cons,Bool.and_eq_true] at hs2
 refine PE.imp (c1k PySem.F.plainAttrs_list PySem.F.slot_list_append PySem.F.type_list_append M0 ho ha (Q5 hb) (b3n hs hf) hl (k6 hs2.1) (w5 hs2.2)) λσ H Q ⟨μ,S,ρ,eo,rp,p⟩=>?_
 refine ⟨μ,S,ρ,eo,rp,p.bind.imp λx S1 μ1 H1 l1 r1 p1 xv rx=>?_⟩
 obtain ⟨a0,xs0,ds0,e0,h0,r0,q0⟩:=u0 rx r1 p1.bind
 have p1:=p1.ok_bind q0
 subst e0
 refine ⟨.inl ⟨rfl,_,.inl (.inl h0)⟩,μ1,S1,ρ,eo.later l1,r1,p1.bind.imp λds S2 μ2 H2 l2 r2 p2 vs rvs=>?_⟩
 have rx2:=rx.later l2
 clear p1
 cases rx2 with
 | ref h=>
  rename_i n
  match ds,rvs with
  | [],_=>exact False.elim p2
  | _ :: _ :: _,_=>exact False.elim p2
  | [d],rvs=>
   obtain ⟨v,rfl,rv⟩:=b4f rvs
   simp only [a1i] at p2
   cases q1:S2[n]? with
   | none=>rw [q1] at p2;exact p2.elim
   | some o=>
    rw [q1] at p2
    cases o with
    | lst es=>
     obtain ⟨xs,h1,h2⟩:=r2.ats n _ _ q1 h
     by_cases hl:es.length<sizeLine
     ·simp only [if_pos hl] at p2
      have m:=List.mem_of_getElem? h
      refine ⟨_,xs,v,rfl,rfl,h1,by rw [<- h2.length];exact hl,?_⟩
      exact p2 μ2 _ (Lat.wrote m) (r2.wrote h ⟨_,d4,(h2.append (.cons rv .nil)).later (Lat.wrote m)⟩) _ .non
     ·simp only [if_neg hl] at p2;exact p2.elim
    | dct _=>exact p2.elim
    | exc _ _=>exact p2.elim
 | _=>exact False.elim p2
end
noncomputable def D8:List ((Env->M D)×(Env->M D))->Env->M (List (D×D))
 | [],_=>ret []
 | (f,g) :: r,ρ=>bind (f ρ) λx=>bind (g ρ) λy=>bind (D8 r ρ) λps=>ret ((x,y) :: ps)
noncomputable def a60 (kvs more:List (Key×D)):List (Key×D):=more.foldl (λacc kv=>b0y acc kv.1 kv.2) kvs
noncomputable def a2e (p:D×D):Option (Key×D):=(D1 p.1).map λk=>(k,p.2)
noncomputable def a7i (ps:List (D×D)):M D:=λS=>match k9 a2e ps with
 | some kvs=>if kvs.length<=15 then .ok (.ref S.length) (S++[.dct (a60 [] kvs)]) else .bad
 | none=>.bad
section
variable {K:PySem.W.Frag} {cl:Nat->Addr} {xe:Addr->Hp->Prop} {μ:Mp} {H:Hp} {S:Sto} {β:Type}
theorem a2j:∀ {more:List (Key×D)} {ms:List (Key×V)} {kvs:List (Key×D)} {ks:List (Key×V)},KvsAt K μ H more ms->KvsAt K μ H kvs ks->KvsAt K μ H (a60 kvs more) (O8 ks ms)
 | _,_,_,_,.nil,h=>h
 | _,_,kvs,ks,.cons (a:=a) (b:=b) ⟨h1,h2⟩ t,h=>by
  show KvsAt K μ H (a60 (b0y kvs a.1 a.2) _) (O8 (B4 ks b.1 b.2) _)
  rw [h1]
  exact a2j t (a75 h h2)
noncomputable abbrev RPs (K:PySem.W.Frag) (μ:Mp) (H:Hp):List (D×D)->List (V×V)->Prop:=Paired λx y=>RD K μ H x.1 y.1/\RD K μ H x.2 y.2
theorem a8 {α γ:Type} (m:M α) (k:α->M β) (j:β->M γ):bind (bind m k) j=bind m λa=>bind (k a) j:=by
 funext S
 unfold bind
 cases m S <;> rfl
theorem j9 {α:Type} (a:α) (k:α->M β):bind (ret a) k=k a:=rfl
theorem X0 {p:Addr} {o:HO} {ρ:Env} {σ:L2.St}:∀ {fks:List ((Env->M D)×(Env->M D))} {k:List (D×D)->M β} {G:β->Sto->Mp->Hp->Prop} {R:List (V×V)->Hp->Prop} {μ2:Mp} {H2:Hp} {S2:Sto},Post K cl xe μ H (bind (D8 fks ρ) k S2) G->HLat μ H p μ2 H2->p∉μ2.pl->H2 p=some o->EnvOk K μ2 H2 ρ σ->Rep K cl μ2 S2 H2 ->
  (∀ ps H3 μ3 S3 ds,HLat μ H p μ3 H3->p∉μ3.pl->H3 p=some o->Rep K cl μ3 S3 H3->Lat μ2 H2 μ3 H3->RPs K μ3 H3 ds ps->Post K cl xe μ H (k ds S3) G->R ps H3)->a36 (fks.map λfg=>(tD K cl xe fg.1,tD K cl xe fg.2)) σ H2 R
 | [],k,G,R,μ2,H2,S2,h,l,n,e,eo,rp,q=>q [] H2 μ2 S2 [] l n e rp (Lat.refl _ _) .nil h
 | (f,g) :: r,k,G,R,μ2,H2,S2,h,l,n,e,eo,rp,q=>by
  have h1:Post K cl xe μ H (bind (f ρ) (λx=>bind (g ρ) λy=>bind (D8 r ρ) λps=>k ((x,y) :: ps)) S2) G:=by
   have:bind (D8 ((f,g) :: r) ρ) k=bind (f ρ) (λx=>bind (g ρ) λy=>bind (D8 r ρ) λps=>k ((x,y) :: ps)):=by
    show bind (bind (f ρ) λx=>bind (g ρ) λy=>bind (D8 r ρ) λps=>ret ((x,y) :: ps)) k=_
    simp only [a8,j9]
   rw [<- this];exact h
  refine ⟨μ2,S2,ρ,eo,rp,(h1.at l).imp λx S3 μ3 H3 l3 r3 p3 xv rx=>?_⟩
  refine ⟨μ3,S3,ρ,eo.later l3,r3,(p3.at (l.step l3)).imp λy S4 μ4 H4 l4 r4 p4 yv ry=>?_⟩
  have l34:=l3.trans l4
  have e4:=l34.oth _ _ e n
  refine X0 (p:=p) (o:=o) (ρ:=ρ) (σ:=σ) (fks:=r) (k:=λps=>k ((x,y) :: ps)) (G:=G) p4 (l.step l34) (l34.out e n) e4 (eo.later l34) r4 λps H5 μ5 S5 ds hl5 n5 e5 r5 l5 rps p5=>?_
  exact q ((xv,yv) :: ps) H5 μ5 S5 ((x,y) :: ds) hl5 n5 e5 r5 (l34.trans l5) (.cons ⟨(rx.later l4).later l5,ry.later l5⟩ rps) p5
theorem a68 {p:Addr} {u:HO} {ob:O} {rs:List Addr} {kz:List (Key×V)} (er:μ.rs=p :: rs) (nr:p∉rs) (hp:H p=some (.dK kz)) (rp:Rep K cl μ S H) (ho:OAt K cl ⟨μ.pl++[p],rs⟩ (upd H p u) p ob):Rep K cl ⟨μ.pl++[p],rs⟩ (S++[ob]) (upd H p u):=by
 have np:p∉μ.pl:=(rp.res p (by rw [er];exact List.mem_cons_self)).1
 have hp':∀ (n:Nat) (a:Addr),μ.pl[n]?=some a->(μ.pl++[p])[n]?=some a:=λn a e=>by rw [List.getElem?_append_left (List.getElem?_eq_some_iff.mp e).1];exact e
 have ho':∀ a w,H a=some w->a∉μ.pl->a∉μ.rs->upd H p u a=some w/\a∉(⟨μ.pl++[p],rs⟩:Mp).pl/\a∉(⟨μ.pl++[p],rs⟩:Mp).rs:=λa w e n1 n2=>by
  have ne:a≠p:=λz=>n2 (by rw [er,z];exact List.mem_cons_self)
  refine ⟨by rw [b9 ne];exact e,λz=>?_,λz=>n2 (by rw [er];exact List.mem_cons_of_mem _ z)⟩
  rcases List.mem_append.mp z with z | z
  ·exact n1 z
  ·exact ne (List.mem_singleton.mp z)
 refine ⟨by simp [rp.len],?_,λn o a e1 e2=>?_,λa m=>?_⟩
 ·show (μ.pl++[p]).Nodup
  rw [List.nodup_append]
  exact ⟨rp.nd,by simp,λa m b m2=>by rw [List.mem_singleton.mp m2];rintro rfl;exact np m⟩
 ·have e2:(μ.pl++[p])[n]?=some a:=e2
  by_cases hn:n<S.length
  ·rw [List.getElem?_append_left hn] at e1
   rw [List.getElem?_append_left (by rw [rp.len];exact hn)] at e2
   have h:=rp.ats n o a e1 e2
   have ka:upd H p u a=H a:=b9 λz=>np (z▸List.mem_of_getElem? e2)
   cases o with
   | lst ds=>obtain ⟨xs,e,q⟩:=h;exact ⟨xs,by rw [ka];exact e,q.move hp' ho'⟩
   | dct kvs=>obtain ⟨xs,e,q⟩:=h;exact ⟨xs,by rw [ka];exact e,Paired.mono (λ_ _ ⟨z,w⟩=>⟨z,w.move hp' ho'⟩) q⟩
   | exc c fs=>
    obtain ⟨xc,gs,q,fr,h⟩:=h
    refine ⟨xc,gs,Paired.mono (λ_ _ ⟨z,w⟩=>⟨z,w.move hp' ho'⟩) q,fr,?_⟩
    rcases h with ⟨z,e⟩ | ⟨d,h1,h2,e,e3⟩
    ·exact .inl ⟨z,by rw [ka];exact e⟩
    ·have ne:d≠p:=b4z e3 hp (by intro z;cases z)
     refine .inr ⟨d,h1,λz=>?_,by rw [ka];exact e,by rw [b9 ne];exact e3⟩
     rcases List.mem_append.mp z with z | z
     ·exact h2 z
     ·exact ne (List.mem_singleton.mp z)
  ·have hn2:n=S.length:=by
    have:=(List.getElem?_eq_some_iff.mp e1).1
    simp at this;omega
   subst hn2
   rw [<- rp.len] at e2
   simp at e1 e2
   subst e1;subst e2
   exact ho
 ·have m:a∈rs:=m
  obtain ⟨h1,w,h2⟩:=rp.res a (by rw [er];exact List.mem_cons_of_mem _ m)
  have ne:a≠p:=λz=>nr (z▸m)
  refine ⟨λz=>?_,w,by rw [b9 ne];exact h2⟩
  rcases List.mem_append.mp z with z | z
  ·exact h1 z
  ·exact ne (List.mem_singleton.mp z)
theorem a1c:∀ {ds:List (D×D)} {ps:List (V×V)} {kvs:List (Key×D)},RPs K μ H ds ps->k9 a2e ds=some kvs->∃ ks:List (Key×V),KvsAt K μ H kvs ks/\ps=ks.map (λkv=>(kV kv.1,kv.2))
 | _,_,kvs,.nil,e=>by cases e;exact ⟨[],.nil,rfl⟩
 | _,_,kvs,.cons (a:=a) (b:=b) ⟨h1,h2⟩ t,e=>by
  simp only [k9] at e
  cases e1:a2e a with
  | none=>rw [e1] at e;cases e
  | some kv=>
   rename_i as bs
   cases e2:k9 a2e as with
   | none=>rw [e1,e2] at e;cases e
   | some kvs'=>
    rw [e1,e2] at e;cases e
    obtain ⟨ks,q1,q2⟩:=a1c t e2
    unfold a2e at e1
    cases e3:D1 a.1 with
    | none=>rw [e3] at e1;cases e1
    | some k=>
     rw [e3] at e1;cases e1
     have:=K3 h1 e3
     obtain ⟨b1,b2⟩:=b
     subst this
     exact ⟨(k,b2) :: ks,.cons ⟨rfl,h2⟩ q1,by rw [q2];rfl⟩
end
section
variable {X:Cx} {cl:Nat->Addr} {xe:Addr->Hp->Prop} {pos:Pos}
theorem b7l {keys:List (Option Expr)} {values:List Expr} {fks:List ((Env->M D)×(Env->M D))} (h:PPs X pos keys values (fks.map λfg=>(tD X.K cl xe fg.1,tD X.K cl xe fg.2))) (hall:keys.all (·.isSome)=true) (hl:keys.length=values.length) (h0:keys≠[]) (h15:keys.length<=15) :
  PE X (.Dict keys values pos) (tD X.K cl xe λρ=>bind (D8 fks ρ) a7i):=PE.imp (b94 h hall hl h0 h15) λσ H Q ⟨μ,S,ρ,eo,rp,P⟩=>by
 intro p hp
 have nrs:=rp.notrs hp
 refine X0 (p:=p) (o:=.dK []) (ρ:=ρ) (μ:=μ) (H:=H) (μ2:=μ.hold p) (S2:=S) P ?_ (rp.notin hp) d4 (a0v rp hp eo) (a01 rp hp) λps H3 μ3 S3 ds hl3 n3 e3 r3 l3 rps P3=>?_
 ·refine ⟨⟨λ_ _ e=>e,λa o e _=>by rw [b9 (d8 e hp)];exact e,λa m=>.inl m,λa m=>?_⟩,rfl⟩
  rcases List.mem_cons.mp (show a∈p :: μ.rs from m) with rfl | m
  ·exact .inr hp
  ·exact .inl m
 ·simp only [a7i] at P3
  cases e1:k9 a2e ds with
  | none=>rw [e1] at P3;exact P3.elim
  | some kvs=>
   rw [e1] at P3
   by_cases h15:kvs.length<=15
   ·simp only [if_pos h15] at P3
    obtain ⟨ks,q1,q2⟩:=a1c rps e1
    refine ⟨e3,ks,q2,by rw [<- Paired.length q1];exact h15,?_⟩
    have np:p∉μ3.pl:=n3
    have hp':∀ (n:Nat) (a:Addr),μ3.pl[n]?=some a->(μ3.pl++[p])[n]?=some a:=λn a e=>by rw [List.getElem?_append_left (List.getElem?_eq_some_iff.mp e).1];exact e
    have mv:∀ {u:HO} {d:D} {v:V},RD X.K μ3 H3 d v->RD X.K ⟨μ3.pl++[p],μ.rs⟩ (upd H3 p u) d v:=λr=>r.move (μ:=μ3) (μ':=⟨μ3.pl++[p],μ.rs⟩) hp' λa w e n1 n2=>by
     have ne:a≠p:=λz=>n2 (by rw [hl3.rs,z];exact List.mem_cons_self)
     refine ⟨by rw [b9 ne];exact e,λz=>?_,λz=>n2 (by rw [hl3.rs];exact List.mem_cons_of_mem _ z)⟩
     rcases List.mem_append.mp z with z | z
     ·exact n1 z
     ·exact ne (List.mem_singleton.mp z)
    refine P3 ⟨μ3.pl++[p],μ.rs⟩ _ ?_ (a68 hl3.rs nrs e3 r3 ⟨_,d4,a2j (Paired.mono (λ_ _ ⟨z,w⟩=>⟨z,mv w⟩) q1) .nil⟩) _ (.ref ?_)
    ·refine ⟨λn a e=>hp' n a (hl3.r.pre n a e),λa o e n=>?_,λa m=>?_,rfl⟩
     ·rw [b9 (d8 e hp)];exact hl3.r.oth a o e n
     ·rcases List.mem_append.mp (show a∈μ3.pl++[p] from m) with m | m
      ·exact hl3.r.new a m
      ·exact .inr (by rw [List.mem_singleton.mp m];exact hp)
    ·show (μ3.pl++[p])[S3.length]?=some p
     rw [<- r3.len];simp
   ·simp only [if_neg h15] at P3;exact P3.elim
end
noncomputable def D2 (S:Sto) (d:D):Bool:=match m3 64 S d with
 | some p=>decide (Shows p)&&decide (p.shown.length<=4000)&&(match d with
  | .str x=>decide (x.length<=4000)
  | _=>true)
 | none=>false
noncomputable def E4 (c:Nat) (fs:List Str) (ds:List D):M D:=λS=>if ds.length=fs.length/\ds.all (D2 S)=true then .ok (.ref S.length) (S++[.exc c (fs.zip ds)]) else .bad
noncomputable def b4d (c:Nat) (ds:List D):M D:=λS=>match ds with
 | [_]=>.ok (.ref S.length) (S++[.exc c []])
 | _=>.bad
theorem a7w {K:PySem.W.Frag} {cl:Nat->Addr} {μ:Mp} {H:Hp} {S:Sto} {d:D} {v:V} (rp:Rep K cl μ S H) (r:RD K μ H d v) (h:D2 S d=true):∃ p,Hn.Fmt K H v p:=by
 unfold D2 at h
 cases e:m3 64 S d with
 | none=>rw [e] at h;cases h
 | some p=>
  rw [e] at h
  simp only [Bool.and_eq_true,decide_eq_true_eq] at h
  refine ⟨p,D0 rp 64 e r,h.1.1,h.1.2,λx ex=>?_⟩
  subst ex
  cases r with
  | str _=>exact of_decide_eq_true h.2
noncomputable def d0e (K:PySem.W.Frag) (H:Hp) (v:V):Prop:=∃ x C d,v=.ref x/\XC K C/\H x=some (N6 x C d)
noncomputable def tDf (K:PySem.W.Frag) (cl:Nat->Addr) (xe:Addr->Hp->Prop) (f:Env->M D):TE:=λσ H Q=>∃ μ S ρ,EnvOk K μ H ρ σ/\Rep K cl μ S H/\Post K cl xe μ H (f ρ S) λd _ μ' H'=>∀ v,RD K μ' H' d v->d0e K H' v->Q v H'
theorem PE.unf {X:Cx} {cl:Nat->Addr} {xe:Addr->Hp->Prop} {e:Expr} {f:Env->M D} (h:PE X e (tDf X.K cl xe f)):PE X e (tD X.K cl xe f):=PE.imp h λσ H Q ⟨μ,S,ρ,eo,rp,P⟩=>⟨μ,S,ρ,eo,rp,P.imp λd S1 μ1 H1 l1 r1 p1 v rv _=>p1 v rv⟩
section
variable {X:Cx} {cl:Nat->Addr} {xe:Addr->Hp->Prop} {e:Expr} {es:List Expr} {pos:Pos} {fs:Env->M (List D)}
theorem a72 {K:PySem.W.Frag} {μ:Mp} {H H':Hp} {S:Sto} {c:Nat} {x:Addr} {gs:List (Str×V)} {ds:List (Str×D)} (rp:Rep K cl μ S H) (hx:H x=none) (M:XC K (cl c)) (g:Hn.Got (upd H x (N6 x (cl c) none)) x (cl c) gs H') (r:∀ {μ':Mp} {H':Hp},Lat μ H μ' H'->b10 K μ' H' ds gs) :
  Lat μ H (μ.push x) H'/\Rep K cl (μ.push x) (S++[.exc c ds]) H'/\RD K (μ.push x) H' (.ref S.length) (.ref x):=by
 obtain ⟨d,hd,ne,h1,h2,h3⟩:=g
 rw [b9 ne] at hd
 have k:∀ a u,H a=some u->H' a=some u:=λa u e=>by
  have n1:=d8 e hx
  have n2:=d8 e hd
  rw [h3 a n1 n2,b9 n1];exact e
 have l:=Lat.pushed (μ:=μ) hx k
 refine ⟨l,rp.pushed hx k ⟨M,gs,r l,none,.inr ⟨d,ne,λz=>?_,h1,h2⟩⟩,.ref ?_⟩
 ·rcases List.mem_append.mp (show d∈μ.pl++[x] from z) with z | z
  ·exact rp.notin hd z
  ·exact ne (List.mem_singleton.mp z)
 ·show (μ.pl++[x])[S.length]?=some x
  rw [<- rp.len];simp
theorem b6i {k:Nat} {f:Addr} {fd:FuncData} {ps:List Str} {E:XK} {CX:CXT} {nm g:Str} {p:Pos} {c:Nat} (M:XC X.K (cl c)) (na:A9 X.K (cl c) g) (hi:PySem.W.findIn X.K (.ref (cl c)) "__init__" = some (some (.ref f))) (hf:PySem.W.isFn X.K (.ref f)=true) (F:FnOk X.prog X.w X.K X.mg X.base CX k f fd ps (Hn.sp1 X.K g)) (hr:Room CX.q (k+1) X.A) (hg:Gl X nm) (hm:X.mg nm=some (.ref (cl c))) (hb:Binds X.K fd ps []) (hx:D4 CX X E)
  (ha:PA X (e :: es) (tDs X.K cl xe fs)) (hdb:(nm==("__debug__" : Str))=false) (hs:(e :: es).all noStar=true):PE X (.Call (.Name nm p) (e :: es) [] pos) (tDf X.K cl xe λρ=>bind (fs ρ) (E4 c [g])):=by
 rw [List.all_cons,Bool.and_eq_true] at hs
 refine PE.imp (a0k M hi hf F hr hg hm hb hx ha hdb (k6 hs.1) (w5 hs.2)) λσ H Q ⟨μ,S,ρ,eo,rp,P⟩=>?_
 refine ⟨μ,S,ρ,eo,rp,P.bind.imp λds S1 μ1 H1 l1 r1 p1 vs rvs=>?_⟩
 unfold E4 at p1
 by_cases hc:ds.length=[g].length/\ds.all (D2 S1)=true
 ·rw [if_pos hc] at p1
  match ds,hc,rvs,p1 with
  | [d],hc,rvs,p1=>
   obtain ⟨v,rfl,rv⟩:=b4f rvs
   obtain ⟨q,ft⟩:=a7w r1 rv (by simpa using hc.2)
   refine ⟨by show 1<=1000;decide,λx hx=>⟨x,v,cl c,q,rfl,M,na,d4,ft.laid hx,λH' got=>⟨rfl,?_⟩⟩⟩
   obtain ⟨l2,r2,rd2⟩:=a72 (c:=c) (ds:=[(g,d)]) r1 hx M got λl=>.cons ⟨rfl,rv.later l⟩ .nil
   obtain ⟨d0,_,_,g1,_⟩:=id got
   exact p1 _ _ l2 r2 _ rd2 ⟨x,cl c,_,rfl,M,g1⟩
  | [],hc,_,_=>exact absurd hc.1 (by simp)
  | _ :: _ :: _,hc,_,_=>exact absurd hc.1 (by simp)
 ·rw [if_neg hc] at p1;exact p1.elim
theorem b6c {k:Nat} {f:Addr} {fd:FuncData} {ps:List Str} {E:XK} {CX:CXT} {nm g g2:Str} {p:Pos} {c:Nat} (M:XC X.K (cl c)) (na:A9 X.K (cl c) g) (nb:A9 X.K (cl c) g2) (hi:PySem.W.findIn X.K (.ref (cl c)) "__init__" = some (some (.ref f))) (hf:PySem.W.isFn X.K (.ref f)=true) (F:FnOk X.prog X.w X.K X.mg X.base CX k f fd ps (Hn.sp2 X.K g g2)) (hr:Room CX.q (k+1) X.A) (hg:Gl X nm) (hm:X.mg nm=some (.ref (cl c))) (hb:Binds X.K fd ps []) (hx:D4 CX X E)
  (ha:PA X (e :: es) (tDs X.K cl xe fs)) (hdb:(nm==("__debug__" : Str))=false) (hs:(e :: es).all noStar=true):PE X (.Call (.Name nm p) (e :: es) [] pos) (tDf X.K cl xe λρ=>bind (fs ρ) (E4 c [g,g2])):=by
 rw [List.all_cons,Bool.and_eq_true] at hs
 refine PE.imp (a0k M hi hf F hr hg hm hb hx ha hdb (k6 hs.1) (w5 hs.2)) λσ H Q ⟨μ,S,ρ,eo,rp,P⟩=>?_
 refine ⟨μ,S,ρ,eo,rp,P.bind.imp λds S1 μ1 H1 l1 r1 p1 vs rvs=>?_⟩
 unfold E4 at p1
 by_cases hc:ds.length=[g,g2].length/\ds.all (D2 S1)=true
 ·rw [if_pos hc] at p1
  match ds,hc,rvs,p1 with
  | [d,d2],hc,rvs,p1=>
   cases rvs with
   | cons rv t=>
    obtain ⟨v2,rfl,rv2⟩:=b4f t
    rename_i v
    have hc2:D2 S1 d=true/\D2 S1 d2=true:=by simpa using hc.2
    obtain ⟨q,ft⟩:=a7w r1 rv hc2.1
    obtain ⟨q2,ft2⟩:=a7w r1 rv2 hc2.2
    refine ⟨by show 2<=1000;decide,λx hx=>⟨x,v,v2,cl c,q,q2,rfl,M,na,nb,d4,ft.laid hx,ft2.laid hx,λH' got=>⟨rfl,?_⟩⟩⟩
    obtain ⟨l2,r2,rd2⟩:=a72 (c:=c) (ds:=[(g,d),(g2,d2)]) r1 hx M got λl=>.cons ⟨rfl,rv.later l⟩ (.cons ⟨rfl,rv2.later l⟩ .nil)
    obtain ⟨d0,_,_,g1,_⟩:=id got
    exact p1 _ _ l2 r2 _ rd2 ⟨x,cl c,_,rfl,M,g1⟩
  | [],hc,_,_=>exact absurd hc.1 (by simp)
  | [_],hc,_,_=>exact absurd hc.1 (by simp)
  | _ :: _ :: _ :: _,hc,_,_=>exact absurd hc.1 (by simp)
 ·rw [if_neg hc] at p1;exact p1.elim
theorem b4h {k:Nat} {f:Addr} {fd:FuncData} {ps:List Str} {E:XK} {CX:CXT} {nm:Str} {p:Pos} {c:Nat} (M:XC X.K (cl c)) (hi:PySem.W.findIn X.K (.ref (cl c)) "__init__" = some (some (.ref f))) (hf:PySem.W.isFn X.K (.ref f)=true) (F:FnOk X.prog X.w X.K X.mg X.base CX k f fd ps (Hn.spHE X.K)) (hr:Room CX.q (k+1) X.A) (hg:Gl X nm) (hm:X.mg nm=some (.ref (cl c))) (hb:Binds X.K fd ps []) (hx:D4 CX X E)
  (ha:PA X (e :: es) (tDs X.K cl xe fs)) (hdb:(nm==("__debug__" : Str))=false) (hs:(e :: es).all noStar=true):PE X (.Call (.Name nm p) (e :: es) [] pos) (tDf X.K cl xe λρ=>bind (fs ρ) (b4d c)):=by
 rw [List.all_cons,Bool.and_eq_true] at hs
 refine PE.imp (a0k M hi hf F hr hg hm hb hx ha hdb (k6 hs.1) (w5 hs.2)) λσ H Q ⟨μ,S,ρ,eo,rp,P⟩=>?_
 refine ⟨μ,S,ρ,eo,rp,P.bind.imp λds S1 μ1 H1 l1 r1 p1 vs rvs=>?_⟩
 match ds,rvs,p1 with
 | [d],rvs,p1=>
  obtain ⟨v,rfl,rv⟩:=b4f rvs
  refine ⟨by show 1<=1000;decide,λx hx=>⟨x,v,cl c,none,rfl,M,d4,rfl,?_⟩⟩
  have k:∀ a u,H1 a=some u->upd H1 x (N6 x (cl c) none) a=some u:=λa u e=>by rw [b9 (d8 e hx)];exact e
  have l:=Lat.pushed (μ:=μ1) hx k
  refine p1 _ _ l (r1.pushed hx k ⟨M,[],.nil,none,.inl ⟨rfl,d4⟩⟩) _ (.ref ?_) ⟨x,cl c,_,rfl,M,d4⟩
  show (μ1.pl++[x])[S1.length]?=some x
  rw [<- r1.len];simp
 | [],_,p1=>exact p1.elim
 | _ :: _ :: _,_,p1=>exact p1.elim
end
noncomputable def tys:List String:=["NoneType","bool","int","str","tuple","list","dict"]
noncomputable def subT (t T:String):Bool:=t==T||(t == "bool" && T == "int")
theorem c0y (K:PySem.W.Frag):∀ t∈tys,∀ T∈tys,PySem.W.kitOne K (.type t) (.type T)=some (subT t T):=by
 intro t ht T hT
 simp only [tys,List.mem_cons,List.not_mem_nil,or_false] at ht hT
 rcases ht with rfl | rfl | rfl | rfl | rfl | rfl | rfl <;> rcases hT with rfl | rfl | rfl | rfl | rfl | rfl | rfl <;> kernel_rfl
noncomputable def tyD (S:Sto) (d:D):Option String:=match d with
 | .non=>some "NoneType"
 | .bl _=>some "bool"
 | .int _=>some "int"
 | .str _=>some "str"
 | .tup _=>some "tuple"
 | .lst _=>some "list"
 | .scr _=>some "list"
 | .ref n=>match S[n]? with
  | some (.lst _)=>some "list"
  | some (.dct _)=>some "dict"
  | _=>none
noncomputable def X7 (T:String) (sx:Nat->Bool) (d:D):M D:=λS=>match tyD S d with
 | some t=>.ok (.bl (subT t T)) S
 | none=>match d with
  | .ref n=>match S[n]? with
   | some (.exc c _)=>.ok (.bl (sx c)) S
   | _=>.bad
  | _=>.bad
noncomputable def b0d (sx:Nat->Bool) (d:D):M D:=λS=>match d with
 | .ref n=>match S[n]? with
  | some (.exc c _)=>.ok (.bl (sx c)) S
  | _=>.bad
 | _=>.bad
section
variable {X:Cx} {cl:Nat->Addr} {xe:Addr->Hp->Prop} {a:Expr} {pos p q:Pos} {f:Env->M D}
theorem b7t {T:V} {c0:Value} {sx:Nat->Bool} (hc:c6k T=some c0) (hk:∀ c,XC X.K (cl c)->PySem.W.kitOne X.K (.ref (cl c)) c0=some (sx c)) {pins:List (Addr×Obj)} {s:Shared} {σ:L2.St} {H:Hp} {us:List Value} {Q:VK} {μ:Mp} {S:Sto} {n:Nat} {b:Addr} {c:Nat} {fs:List (Str×D)} (I:L2.Inv X pins σ H s) (r:Vals [.ref b,T] us)
  (rp:Rep X.K cl μ S H) (e:S[n]?=some (.exc c fs)) (h:μ.pl[n]?=some b) (q:Q (.bl (sx c)) H):wpAny (model X.prog X.w) X.A (call (.builtin "isinstance") us) (EP X pins σ Q) X.xe s:=by
 obtain ⟨xc,gs,r2,fr,h2⟩:=rp.ats n _ b e h
 rcases h2 with ⟨z,e2⟩ | ⟨d,n1,n2,e2,e3⟩
 ·exact a2f pins s σ H _ us Q I r ⟨fr,b,cl c,none,T,c0,sx c,rfl,xc,e2,λ_ z=>(nomatch z),hc,hk c xc,q⟩
 ·exact a2f pins s σ H _ us Q I r ⟨fr,b,cl c,some d,T,c0,sx c,rfl,xc,e2,λd' z=>by cases z;exact ⟨gs,e3⟩,hc,hk c xc,q⟩
theorem b0e {T:String} (hT:T∈tys) {pins:List (Addr×Obj)} {s:Shared} {σ:L2.St} {H:Hp} {us:List Value} {Q:VK} {μ:Mp} {S:Sto} {d:D} {v:V} {t:String} (I:L2.Inv X pins σ H s) (r:Vals [v,.ty T] us) (rd:RD X.K μ H d v) (rp:Rep X.K cl μ S H) (e:tyD S d=some t)
  (q:Q (.bl (subT t T)) H):wpAny (model X.prog X.w) X.A (call (.builtin "isinstance") us) (EP X pins σ Q) X.xe s:=by
 obtain ⟨u,u2,rfl,ru,ru2⟩:=a5y r
 cases (show u2=Value.type T from ru2)
 have ht:t∈tys:=by
  cases d <;> simp only [tyD] at e <;> first
   | (cases e;decide)
   | (split at e <;> first | (cases e;decide) | cases e)
 have hk:=c0y X.K t ht T hT
 have fin:∀ tk,EP X pins σ Q (.bool (subT t T)) { s with toks:=tk }:=λtk=>⟨.bl _,H,I.tok _,rfl,q⟩
 have tupT:∀ {b:Addr} {xs:List V},SqT X.K H b xs->u=.ref b->t = "tuple"->wpAny (model X.prog X.w) X.A (call (.builtin "isinstance") [u,.type T]) (EP X pins σ Q) X.xe s:=λ{b xs} h eu et=>by
  subst eu et
  obtain ⟨its,_,⟨o,h1,h2,_⟩,_⟩:=I.tuple h
  exact PySem.W.kia_one PySem.W.kitx_tuple I.kIn ⟨o,h1,h2⟩ hk (λz=>nomatch z) fin
 have lstT:∀ {b:Addr} {xs:List V},SqL X.K H b xs->u=.ref b->t = "list"->wpAny (model X.prog X.w) X.A (call (.builtin "isinstance") [u,.type T]) (EP X pins σ Q) X.xe s:=λ{b xs} h eu et=>by
  subst eu et
  obtain ⟨its,_,⟨o,n,h1,h2,_⟩,_⟩:=I.list h
  exact PySem.W.kia_one PySem.W.kitx_list I.kIn ⟨o,h1,h2⟩ hk (λz=>nomatch z) fin
 cases rd with
 | non=>cases (show u=Value.none from ru);cases e;exact PySem.W.kia_one PySem.W.kitx_none I.kIn True.intro hk (λz=>nomatch z) fin
 | bl b=>cases (show u=Value.bool b from ru);cases e;exact PySem.W.kia_one PySem.W.kitx_bool I.kIn True.intro hk (λz=>nomatch z) fin
 | int i=>obtain ⟨tk,q⟩:=(show ∃ t,u=Value.int i t from ru);cases q;cases e;exact PySem.W.kia_one PySem.W.kitx_int I.kIn True.intro hk (λz=>nomatch z) fin
 | str x=>obtain ⟨tk,q⟩:=(show ∃ t,u=Value.str x t from ru);cases q;cases e;exact PySem.W.kia_one PySem.W.kitx_str I.kIn True.intro hk (λz=>nomatch z) fin
 | tup h r=>cases e;exact tupT h.sq ru rfl
 | lst h r=>cases e;exact lstT h.sq ru rfl
 | scr h r=>cases e;exact lstT h.sq ru rfl
 | ref h=>
  rename_i n b
  simp only [tyD] at e
  cases q1:S[n]? with
  | none=>rw [q1] at e;cases e
  | some o=>
   rw [q1] at e
   cases o with
   | lst ds=>
    cases e
    obtain ⟨xs,h1,h2⟩:=rp.ats n _ b q1 h
    exact lstT (.inl (.inl h1)) ru rfl
   | dct kvs=>
    cases e
    obtain ⟨ks,h1,h2⟩:=rp.ats n _ b q1 h
    cases (show u=Value.ref b from ru)
    obtain ⟨_,_,vs,_,pp⟩:=(show ObjOk X.prog X.w H s.heap b (.dK ks) from I.hok b _ h1)
    obtain ⟨o,es,ep,g1,g2,_⟩:=pp
    exact PySem.W.kia_one PySem.W.kitx_dict I.kIn ⟨o,g1,g2.1⟩ hk (λz=>nomatch z) fin
   | exc _ _=>cases e
theorem a8y {x:Str} {T:String} {sx:Nat->Bool} (hT:T∈tys\/T = "ValueError") (hk:∀ c,XC X.K (cl c)->PySem.W.kitOne X.K (.ref (cl c)) (.type T)=some (sx c)) (h:PE X a (tD X.K cl xe f)) (hg:Gl X "isinstance") (hm:X.mg "isinstance" = none) (hg2:Gl X x) (hm2:X.mg x=none) (hv:bootBuiltins x=some (.type T)) (hn:x ≠ "__name__") (hd:(x==("__debug__" : Str))=false) (hs:noStar a=true) :
  PE X (.Call (.Name "isinstance" p) [a,.Name x q] [] pos) (tD X.K cl xe λρ=>bind (f ρ) λd=>if T∈tys then X7 T sx d else b0d sx d):=by
 have key:o0 X (.builtin "isinstance") (λvs H Q=>∃ μ S d v,vs=[v,.ty T]/\RD X.K μ H d v/\Rep X.K cl μ S H/\Post X.K cl xe μ H ((if T∈tys then X7 T sx d else b0d sx d) S) λr _ μ' H'=>∀ v,RD X.K μ' H' r v->Q v H'):=by
  intro pins s σ H xs us Q I r ⟨μ,S,d,v,ev,rd,rp,P⟩
  subst ev
  have ex:∀ {n:Nat} {b:Addr} {c:Nat} {fs:List (Str×D)},v=.ref b->S[n]?=some (.exc c fs)->μ.pl[n]?=some b->Q (.bl (sx c)) H->wpAny (model X.prog X.w) X.A (call (.builtin "isinstance") us) (EP X pins σ Q) X.xe s:=λ{n b c fs} ev e h q=>by
   subst ev
   exact b7t (T:=.ty T) (c0:=.type T) rfl hk I r rp e h q
  by_cases ht:T∈tys
  ·rw [if_pos ht] at P
   unfold X7 at P
   cases e:tyD S d with
   | some t=>rw [e] at P;exact b0e ht I r rd rp e (P μ H (Lat.refl _ _) rp _ (.bl _))
   | none=>
    rw [e] at P
    cases rd with
    | ref h=>
     rename_i n b
     simp only at P
     cases q1:S[n]? with
     | none=>rw [q1] at P;exact P.elim
     | some o=>
      rw [q1] at P
      cases o with
      | exc c fs=>exact ex rfl q1 h (P μ H (Lat.refl _ _) rp _ (.bl _))
      | lst _=>exact P.elim
      | dct _=>exact P.elim
    | _=>exact False.elim P
  ·rw [if_neg ht] at P
   unfold b0d at P
   cases rd with
   | ref h=>
    rename_i n b
    simp only at P
    cases q1:S[n]? with
    | none=>rw [q1] at P;exact P.elim
    | some o=>
     rw [q1] at P
     cases o with
     | exc c fs=>exact ex rfl q1 h (P μ H (Lat.refl _ _) rp _ (.bl _))
     | lst _=>exact P.elim
     | dct _=>exact P.elim
   | _=>exact False.elim P
 have hb:PE X (.Name x q) (tC (.ty T)):=b8r (u:=.type T) hg2 hm2 hv rfl hn hd
 refine PE.imp (a38 key hg hm (by rfl) (B7 h (B7 hb a02 (k6 rfl)) (k6 hs)) (by decide) (by decide) (k6 hs) (w5 rfl)) λσ H Q ⟨μ,S,ρ,eo,rp,P⟩=>?_
 exact ⟨μ,S,ρ,eo,rp,P.bind.imp λd S1 μ1 H1 l1 r1 p1 v rv=>⟨μ1,S1,d,v,rfl,rv,r1,p1⟩⟩
end
theorem a00 (bs:List Bool):(List.range bs.length).map (λi=>bs.getD i false)=bs:=by
 apply List.ext_getElem
 ·simp
 ·intro i h1 h2
  simp at h1
  simp [h1]
theorem a9p (bs:List Bool):(List.range bs.length).any (λi=>bs.getD i false)=bs.any id:=by
 conv=>rhs;rw [<- a00 bs,List.any_map]
 rfl
theorem b0x (bs:List Bool):(List.range bs.length).all (λi=>bs.getD i false)=bs.all id:=by
 conv=>rhs;rw [<- a00 bs,List.all_map]
 rfl
section
variable {X:Cx}
theorem X1 {A:Around} {bs:List Bool} {its:List Value} (r:Vals (bs.map V.bl) its):TruthOf X.prog X.w A (λi v=>its.toArray[i]?=some v) (λi=>bs.getD i false):=by
 intro i v s Q E hP hQ
 rw [List.getElem?_toArray] at hP
 have hi:i<bs.length:=by
  have a:=r.length
  rw [List.length_map] at a
  have b:=(List.getElem?_eq_some_iff.mp hP).1
  omega
 obtain ⟨u,e1,rv⟩:=Vals.get r (i:=i) (x:=V.bl bs[i]) (by rw [List.getElem?_map,List.getElem?_eq_getElem hi];rfl)
 rw [hP] at e1
 cases e1
 cases rv
 have:bs.getD i false=bs[i]:=by simp [hi]
 exact wpAny_truthy_bool (this▸hQ)
theorem a5k (hc:X.calm=true):o0 X (.builtin "any") (λxs H Q=>∃ (p:Addr) (bs:List Bool),xs=[.ref p]/\SqL X.K H p (bs.map V.bl)/\Q (.bl (bs.any id)) H):=by
 intro pins s σ H xs us Q I r h
 obtain ⟨p,bs,rfl,hq,q⟩:=h
 obtain ⟨u,rfl,rx⟩:=O0 r
 cases rx
 obtain ⟨its,r',pl,hz⟩:=I.list hq
 have hh:X.A.handled=none:=I.ok.hd hc
 have lt:p<s.heap.objs.size:=by
  obtain ⟨o,ho,_⟩:=pl.isList
  exact Heap.lt_size ho
 have hl:its.length=bs.length:=by rw [<- r'.length,List.length_map]
 refine call_any_walk (wpAny_pyIter_list pl.isList ⟨s.heap.objs.size,[s.heap.objs.size,p],[s.heap.objs.size],its.toArray.size,_,_,λi=>bs.getD i false,rfl,Walks.list (A:=X.A.in1) (show X.A.in1.handled=none from hh) _ _ (Nat.ne_of_lt lt) its.toArray,⟨?_,?_⟩,X1 r',λh' tk k=>?_⟩)
 ·exact ⟨_,Heap.get?_push_size _ rfl,rfl,rfl⟩
 ·exact pl.isList.push _
 ·have e:(List.range its.toArray.size).any (λi=>bs.getD i false)=bs.any id:=by
   rw [List.size_toArray,hl];exact a9p bs
  rw [e]
  refine ⟨.bl (bs.any id),H,I.kept (t':=tk) λb o eb=>?_,rfl,q⟩
  have nb:b<s.heap.objs.size:=Heap.lt_size eb
  exact k b o (by simp;exact Nat.ne_of_lt nb) (Heap.get?_push_of_some _ eb)
theorem a4f (hc:X.calm=true):o0 X (.builtin "all") (λxs H Q=>∃ (p:Addr) (bs:List Bool),xs=[.ref p]/\SqL X.K H p (bs.map V.bl)/\Q (.bl (bs.all id)) H):=by
 intro pins s σ H xs us Q I r h
 obtain ⟨p,bs,rfl,hq,q⟩:=h
 obtain ⟨u,rfl,rx⟩:=O0 r
 cases rx
 obtain ⟨its,r',pl,hz⟩:=I.list hq
 have hh:X.A.handled=none:=I.ok.hd hc
 have lt:p<s.heap.objs.size:=by
  obtain ⟨o,ho,_⟩:=pl.isList
  exact Heap.lt_size ho
 have hl:its.length=bs.length:=by rw [<- r'.length,List.length_map]
 refine call_all_walk (wpAny_pyIter_list pl.isList ⟨s.heap.objs.size,[s.heap.objs.size,p],[s.heap.objs.size],its.toArray.size,_,_,λi=>bs.getD i false,rfl,Walks.list (A:=X.A.in1) (show X.A.in1.handled=none from hh) _ _ (Nat.ne_of_lt lt) its.toArray,⟨?_,?_⟩,X1 r',λh' tk k=>?_⟩)
 ·exact ⟨_,Heap.get?_push_size _ rfl,rfl,rfl⟩
 ·exact pl.isList.push _
 ·have e:(List.range its.toArray.size).all (λi=>bs.getD i false)=bs.all id:=by
   rw [List.size_toArray,hl];exact b0x bs
  rw [e]
  refine ⟨.bl (bs.all id),H,I.kept (t':=tk) λb o eb=>?_,rfl,q⟩
  have nb:b<s.heap.objs.size:=Heap.lt_size eb
  exact k b o (by simp;exact Nat.ne_of_lt nb) (Heap.get?_push_of_some _ eb)
variable {cl:Nat->Addr} {xe:Addr->Hp->Prop}
noncomputable def K2:List D->Option (List Bool)
 | []=>some []
 | .bl b :: ds=>(K2 ds).map (b :: ·)
 | _=>none
theorem a6l {K:PySem.W.Frag} {μ:Mp} {H:Hp}:∀ {ds:List D} {vs:List V} {bs:List Bool},K2 ds=some bs->RDs K μ H ds vs->vs=bs.map V.bl
 | [],_,bs,e,r=>by cases r;cases e;rfl
 | d :: ds,_,bs,e,r=>by
  cases r with
  | cons h t=>
   cases d <;> try (simp [K2] at e;done)
   case bl b=>
    simp only [K2] at e
    cases e1:K2 ds with
    | none=>rw [e1] at e;cases e
    | some bs'=>
     rw [e1] at e;cases e
     cases h
     rw [a6l e1 t];rfl
noncomputable def b3p (d:D):M D:=bind (lstOf d) λds=>match K2 ds with
 | some bs=>ret (.bl (bs.any id))
 | none=>bad
noncomputable def a3g (d:D):M D:=bind (lstOf d) λds=>match K2 ds with
 | some bs=>ret (.bl (bs.all id))
 | none=>bad
theorem c6u (hc:X.calm=true):o0 X (.builtin "any") (rPs X.K cl xe (one b3p)):=V6 λpins s σ H μ S d v us Q I r rd rp p=>by
 obtain ⟨a,xs,ds,rfl,h1,h2,e2⟩:=u0 rd rp p.bind
 have p:=p.ok_bind e2
 cases e:K2 ds with
 | none=>rw [e] at p;exact p.elim
 | some bs=>
  rw [e] at p
  have:=a6l e h2
  subst this
  exact a5k hc pins s σ H _ us Q I r ⟨a,bs,rfl,.inl (.inl h1),p μ H (Lat.refl _ _) rp _ (.bl _)⟩
theorem c7m (hc:X.calm=true):o0 X (.builtin "all") (rPs X.K cl xe (one a3g)):=V6 λpins s σ H μ S d v us Q I r rd rp p=>by
 obtain ⟨a,xs,ds,rfl,h1,h2,e2⟩:=u0 rd rp p.bind
 have p:=p.ok_bind e2
 cases e:K2 ds with
 | none=>rw [e] at p;exact p.elim
 | some bs=>
  rw [e] at p
  have:=a6l e h2
  subst this
  exact a4f hc pins s σ H _ us Q I r ⟨a,bs,rfl,.inl (.inl h1),p μ H (Lat.refl _ _) rp _ (.bl _)⟩
noncomputable def E8:List D->Option (List Int)
 | []=>some []
 | .int i :: ds=>(E8 ds).map (i :: ·)
 | _=>none
theorem a3b {K:PySem.W.Frag} {μ:Mp} {H:Hp}:∀ {ds:List D} {vs:List V} {ns:List Int},E8 ds=some ns->RDs K μ H ds vs->vs=ns.map V.int
 | [],_,ns,e,r=>by cases r;cases e;rfl
 | d :: ds,_,ns,e,r=>by
  cases r with
  | cons h t=>
   cases d <;> try (simp [E8] at e;done)
   case int i=>
    simp only [E8] at e
    cases e1:E8 ds with
    | none=>rw [e1] at e;cases e
    | some ns'=>
     rw [e1] at e;cases e
     cases h
     rw [a3b e1 t];rfl
noncomputable def T6:List Int->Option Int
 | []=>none
 | n :: ns=>some (match T6 ns with
  | none=>n
  | some m=>if n<m then m else n)
theorem b9i:∀ {ns:List Int} {M:Int},M∈ns->(∀ a∈ns,a<=M)->T6 ns=some M
 | [],_,h,_=>by cases h
 | [n],M,h,_=>by simp at h;subst h;rfl
 | n :: k :: ns,M,h,q=>by
  obtain ⟨t,e⟩:∃ t,T6 (k :: ns)=some t:=⟨_,rfl⟩
  have he:T6 (n :: k :: ns)=some (if n<t then t else n):=by rw [T6,e]
  rw [he]
  have top:∀ {l:List Int} {t:Int},T6 l=some t->t∈l/\∀ a∈l,a<=t:=by
   intro l
   induction l with
   | nil=>intro t e;cases e
   | cons x l ih=>
    intro t e
    cases h2:T6 l with
    | none=>
     cases l with
     | nil=>simp only [T6] at e;cases e;exact ⟨List.mem_cons_self ..,λa ha=>by simp at ha;omega⟩
     | cons y l=>simp [T6] at h2
    | some m=>
     obtain ⟨m1,m2⟩:=ih h2
     simp only [T6,h2] at e
     cases e
     by_cases hx:x<m
     ·rw [if_pos hx]
      exact ⟨List.mem_cons_of_mem _ m1,λa ha=>by
       rcases List.mem_cons.mp ha with z | z
       ·omega
       ·exact m2 a z⟩
     ·rw [if_neg hx]
      exact ⟨List.mem_cons_self ..,λa ha=>by
       rcases List.mem_cons.mp ha with z | z
       ·omega
       ·have:=m2 a z;omega⟩
  obtain ⟨t1,t2⟩:=top e
  congr 1
  by_cases hx:n<t
  ·rw [if_pos hx]
   have a1:=q t (List.mem_cons_of_mem _ t1)
   rcases List.mem_cons.mp h with z | z
   ·omega
   ·have:=t2 M z;omega
  ·rw [if_neg hx]
   have a1:=q n (List.mem_cons_self ..)
   rcases List.mem_cons.mp h with z | z
   ·omega
   ·have:=t2 M z;omega
theorem E3:∀ {ns:List Int} {us:List Value},Vals (ns.map V.int) us->∃ xs:List (Int×Tok),us=xs.map (λp=>Value.int p.1 p.2)/\xs.map (·.1)=ns
 | [],_,r=>by cases r;exact ⟨[],rfl,rfl⟩
 | n :: ns,_,r=>by
  cases r with
  | cons h t=>
   obtain ⟨k,rfl⟩:=(show ∃ t,_=Value.int n t from h)
   obtain ⟨xs,e1,e2⟩:=E3 t
   exact ⟨(n,k) :: xs,by rw [e1];rfl,by rw [List.map_cons,e2]⟩
theorem a92 (hc:X.calm=true):o0 X (.builtin "max") (λxs H Q=>∃ (p:Addr) (ns:List Int),xs=[.ref p]/\SqL X.K H p (ns.map V.int)/\∃ M,T6 ns=some M/\Q (.int M) H):=by
 intro pins s σ H xs us Q I r h
 obtain ⟨p,ns,rfl,hq,M,hM,q⟩:=h
 obtain ⟨u,rfl,rx⟩:=O0 r
 cases rx
 obtain ⟨its,r',pl,hz⟩:=I.list hq
 have hh:X.A.handled=none:=I.ok.hd hc
 obtain ⟨ys,e1,e2⟩:=E3 r'
 have e3:its.toArray=intItems ys.toArray:=by rw [e1];simp [intItems]
 have hne:0<ys.toArray.size:=by
  cases ys with
  | nil=>cases e2;cases hM
  | cons y ys=>simp
 refine max_intList hh (xs:=ys.toArray) (by rw [<- e3];exact pl.isList) hne λv h' tk hv hk=>?_
 obtain ⟨t,rfl⟩:=intItems_at hv
 obtain ⟨h1,h2⟩:=argBest_gt (numAt ys.toArray) (ys.toArray.size-1)
 have hm:T6 ns=some (numAt ys.toArray (argBest (λi j=>decide (numAt ys.toArray i > numAt ys.toArray j)) (ys.toArray.size-1))):=by
  refine b9i ?_ λa ha=>?_
  ·rw [numAt_eq,<- e2]
   refine getD_mem ?_
   have e5:ys.toArray.size=ys.length:=List.size_toArray
   rw [e5] at h1 hne
   rw [List.length_map]
   show _<ys.length
   rw [e5]
   omega
  ·rw [<- e2] at ha
   obtain ⟨j,hj,rfl⟩:=mem_getD (l:=ys.toArray.toList.map (·.1)) ha
   rw [List.length_map,Array.length_toList] at hj
   rw [<- numAt_eq];exact h2 j (by omega)
 rw [hM] at hm
 cases hm
 exact ⟨.int _,H,I.kept (t':=tk) λb o eb=>hk b o eb,⟨t,rfl⟩,q⟩
noncomputable def b4e (ds:List D):M D:=match ds with
 | [.int i,.int j]=>ret (.int (if j > i then j else i))
 | [d]=>bind (lstOf d) λes=>match (E8 es).bind T6 with
  | some m=>ret (.int m)
  | none=>bad
 | _=>bad
theorem c8w (hc:X.calm=true):o0 X (.builtin "max") (rPs X.K cl xe b4e):=by
 intro pins s σ H xs us Q I r ⟨μ,S,ds,rds,rp,p⟩
 unfold b4e at p
 split at p
 ·cases rds with
  | cons h t=>cases t with
   | cons h2 t2=>
    cases t2;cases h;cases h2
    exact a9u hc pins s σ H _ us Q I r ⟨_,_,rfl,p μ H (Lat.refl _ _) rp _ (.int _)⟩
 ·rename_i d
  cases rds with
  | cons h t=>
   cases t
   obtain ⟨a,xs,es,rfl,h1,h2,e2⟩:=u0 h rp p.bind
   have p:=p.ok_bind e2
   cases e:E8 es with
   | none=>rw [e] at p;exact p.elim
   | some ns=>
    rw [e] at p
    cases e3:T6 ns with
    | none=>simp only [Option.bind_some,e3] at p;exact p.elim
    | some m=>
     simp only [Option.bind_some,e3] at p
     have:=a3b e h2
     subst this
     exact a92 hc pins s σ H _ us Q I r ⟨a,ns,rfl,.inl (.inl h1),m,e3,p μ H (Lat.refl _ _) rp _ (.int _)⟩
 ·exact p.elim
noncomputable def a5a (d:D):M D:=match d with
 | .int i=>ret (.int i)
 | .bl b=>ret (.int (if b then 1 else 0))
 | _=>bad
theorem c6x:o0 X (.type "int") (rPs X.K cl xe (one a5a)):=V6 λpins s σ H μ S d v us Q I r rd rp p=>by
 cases rd with
 | int i=>exact a2n pins s σ H _ us Q I r (.inl ⟨i,rfl,p μ H (Lat.refl _ _) rp _ (.int _)⟩)
 | bl b=>exact a2n pins s σ H _ us Q I r (.inr ⟨b,rfl,p μ H (Lat.refl _ _) rp _ (.int _)⟩)
 | _=>exact False.elim p
noncomputable def a3a (h h':D->D->M D) (x y:D) (z:M D):M D:=bind (h x y) λd=>bind (asB d) λk=>if k=true then bind z λw=>h' y w else ret (.bl false)
theorem b21 {h h':D->D->M D} {tc:TE} {fc:Env->M D} {ρ:Env} {σ:L2.St} {μ:Mp} {S:Sto} {H:Hp} {x y:D} {v u:V} {Q:VK} (htc:tc=tD X.K cl xe fc) (eo:EnvOk X.K μ H ρ σ) (rx:RD X.K μ H x v) (ry:RD X.K μ H y u) (rp:Rep X.K cl μ S H)
  (p:Post X.K cl xe μ H (a3a h h' x y (fc ρ) S) λd _ μ' H'=>∀ v,RD X.K μ' H' d v->Q v H') :
  rP2 X.K cl xe h v u H λz H3=>∃ k,z=.bl k/\(if k=true then tc σ H3 λw' H4=>rP2 X.K cl xe h' u w' H4 Q else Q (.bl false) H3):=by
 subst htc
 refine ⟨μ,S,x,y,rx,ry,rp,p.bind.imp λd S3 μ3 H3 l3 r3 p3 z rz=>?_⟩
 cases rz with
 | bl k=>
  refine ⟨k,rfl,?_⟩
  have p3:Post X.K cl xe μ3 H3 ((if k=true then bind (fc ρ) (λw=>h' y w) else ret (.bl false)) S3) λd _ μ' H'=>∀ v,RD X.K μ' H' d v->Q v H':=p3
  cases k with
  | true=>
   rw [if_pos rfl] at p3 ⊢
   exact ⟨μ3,S3,ρ,eo.later l3,r3,p3.bind.imp λw S4 μ4 H4 l4 r4 p4 w' rw'=>⟨μ4,S4,y,w,(ry.later l3).later l4,rw',r4,p4⟩⟩
  | false=>
   rw [if_neg Bool.false_ne_true] at p3 ⊢
   exact p3 μ3 H3 (Lat.refl _ _) r3 _ (.bl _)
 | _=>exact False.elim p3
theorem c7r {op op':CmpOp} {b c:Expr} (h:behindInMarks op' c=false):lastMarks [op,op'] [b,c]=false:=h
theorem b6l {op op':CmpOp} {h h':D->D->M D} {a b c:Expr} {f g fc:Env->M D} {pos:Pos} (ha:PE X a (tD X.K cl xe f)) (hb:PE X b (tD X.K cl xe g)) (hc:PE X c (tD X.K cl xe fc)) (ho:OpR X (compareOp op) (rP2 X.K cl xe h)) (ho':OpR X (compareOp op') (rP2 X.K cl xe h')) (hm:behindInMarks op' c=false) :
  PE X (.Compare a [op,op'] [b,c] pos) (tD X.K cl xe λρ=>bind (f ρ) λx=>bind (g ρ) λy=>a3a h h' x y (fc ρ)):=PE.imp (b3m ho ho' ha hb hc (c7r hm)) λσ H Q ⟨μ,S,ρ,eo,rp,p⟩=>
 ⟨μ,S,ρ,eo,rp,p.bind.imp λx S1 μ1 H1 l1 r1 p1 v rv=>⟨μ1,S1,ρ,eo.later l1,r1,p1.bind.imp λy S2 μ2 H2 l2 r2 p2 u ru=>b21 rfl ((eo.later l1).later l2) (rv.later l2) ru r2 p2⟩⟩
end
end L3
end
section
set_option maxHeartbeats 1000000
namespace HT
open PySem PySem.Spec PyProof.Rows
end HT
namespace L3
open PySem PySem.Spec PyProof.Rows L2
end L3
end

section
set_option maxHeartbeats 1000000
namespace L3
open PySem PySem.Spec PyProof.Rows L2
end L3
namespace HT
open PySem PySem.Spec PyProof.Rows
open MeetsSeq MeetsSeq2 MeetsSeq3 SeqRoads2 SeqAt
end HT
namespace L3
open PySem PySem.Spec PyProof.Rows L2
section
variable {X:Cx} {cl:Nat->Addr} {xe:Addr->Hp->Prop} {o e:Expr} {es:List Expr} {f:Env->M D} {fs:Env->M (List D)} {apos cpos:Pos}
noncomputable def tupOf (x:D):M (List D):=match x with
 | .tup ds=>ret ds
 | _=>bad
end
end L3
namespace L3
open PySem PySem.Spec PyProof.Rows L2
end L3
end

section
set_option maxHeartbeats 1000000
namespace HT
open PySem PySem.Spec PyProof.Rows
end HT
namespace L3
open PySem PySem.Spec PyProof.Rows L2
end L3
end

section
set_option maxHeartbeats 1000000
namespace L3
open PySem PySem.Spec PyProof.Rows L2
section
variable {X:Cx} {cl:Nat->Addr} {xe:Addr->Hp->Prop} {o e:Expr} {es:List Expr} {f:Env->M D} {fs:Env->M (List D)} {apos cpos:Pos} {name:Str} {T T2 id id2:String} {r r2:V->List V->Hp->VK->Prop} {α:Type}
noncomputable def Looks (K:PySem.W.Frag) (cl:Nat->Addr) (xe:Addr->Hp->Prop) (T:String) (g:D->M α):Prop:=∀ (μ:Mp) (S:Sto) (H:Hp) (x:D) (v:V) (G:α->Sto->Mp->Hp->Prop),RD K μ H x v->Rep K cl μ S H->Post K cl xe μ H (g x S) G->tyV K T v H/\∃ a,g x S=.ok a S
noncomputable def b97 (K:PySem.W.Frag) (cl:Nat->Addr) (xe:Addr->Hp->Prop) (r:V->List V->Hp->VK->Prop) (op:D->List D->M D):Prop:=∀ (μ:Mp) (S:Sto) (H:Hp) (x:D) (v:V) (ds:List D) (vs:List V) (Q:VK),RD K μ H x v->RDs K μ H ds vs->Rep K cl μ S H->Post K cl xe μ H (op x ds S) (λd _ μ' H'=>∀ w,RD K μ' H' d w->Q w H')->r v vs H Q
theorem a28 {g:D->M α} {op:D->List D->M D} (pa:PlainAttrs T) (slot:Slot T name id) (hty:typeOf (.builtin id)=pure (.type "method_descriptor")) (hm:MtR X id r) (hg:Looks X.K cl xe T g) (hd:b97 X.K cl xe r op) (ho:PE X o (tD X.K cl xe f)) (ha:PA X (e :: es) (tDs X.K cl xe fs))
  (hb:G0 o=true) (hs:(e :: es).all noStar=true) (hf:E9 (e :: es)=true) (hl:(apos.endLine==cpos.line)=true) :
  PE X (.Call (.Attribute o name apos) (e :: es) [] cpos) (tD X.K cl xe λρ=>bind (f ρ) λx=>bind (g x) λ_=>bind (fs ρ) λds=>op x ds):=by
 have hs2:=hs
 rw [List.all_cons,Bool.and_eq_true] at hs2
 refine PE.imp (c1k pa slot hty hm ho ha (Q5 hb) (b3n hs hf) hl (k6 hs2.1) (w5 hs2.2)) λσ H Q ⟨μ,S,ρ,eo,rp,p⟩=>?_
 refine ⟨μ,S,ρ,eo,rp,p.bind.imp λx S1 μ1 H1 l1 r1 p1 xv rx=>?_⟩
 obtain ⟨ty,a,ea⟩:=hg μ1 S1 H1 x xv _ rx r1 p1.bind
 have p1:=p1.ok_bind ea
 exact ⟨ty,μ1,S1,ρ,eo.later l1,r1,p1.bind.imp λds S2 μ2 H2 l2 r2 p2 vs rvs=>hd μ2 S2 H2 x xv ds vs Q (rx.later l2) rvs r2 p2⟩
theorem a61:Looks X.K cl xe "list" lstOf:=λμ S H x v G rx rp p=>by
 obtain ⟨a,xs,ds,rfl,h1,h2,e⟩:=u0 rx rp p
 exact ⟨.inl ⟨rfl,_,.inl (.inl h1)⟩,ds,e⟩
theorem b6o (hu:X.A.units+1<cLine):MtR X "dict.get" (λx vs H Q=>∃ a y z ov,x=.ref a/\(vs=[y,z]\/(vs=[y]/\z=.non))/\DGet H a y ov/\Q (ov.getD z) H):=by
 intro pins s σ H x vs v us Q I rx rv h
 obtain ⟨a,y,z,ov,rfl,hv,g,q⟩:=h
 cases rx
 rcases hv with rfl | ⟨rfl,rfl⟩
 ·obtain ⟨u1,u2,rfl,r1,r2⟩:=a5y rv
  exact c3p hu I g r1 r2 λw' s' I' rw'=>⟨_,H,I',rw',q⟩
 ·cases rv with
  | cons r1 t=>
   cases t
   exact c2r hu I g r1 λw' s' I' rw'=>⟨_,H,I',rw',q⟩
noncomputable def getDD (x:D) (ds:List D):M D:=match x,ds with
 | .ref n,[k,z]=>λS=>match S[n]? with
  | some (.dct kvs)=>(match D1 k with
   | some key=>.ok ((X3 kvs key).getD z) S
   | none=>.bad)
  | _=>.bad
 | .ref n,[k]=>λS=>match S[n]? with
  | some (.dct kvs)=>(match D1 k with
   | some key=>.ok ((X3 kvs key).getD .non) S
   | none=>.bad)
  | _=>.bad
 | _,_=>bad
noncomputable def dctOf (x:D):M Unit:=match x with
 | .ref n=>λS=>match S[n]? with
  | some (.dct _)=>.ok () S
  | _=>.bad
 | _=>bad
theorem a0r {K:PySem.W.Frag} {μ:Mp} {H:Hp} {k:Key}:∀ {kvs:List (Key×D)} {ks:List (Key×V)},KvsAt K μ H kvs ks->X3 kvs k=none->N4 ks k=none
 | _,_,.nil,_=>rfl
 | p :: r,q :: r',.cons ⟨h1,h2⟩ t,e=>by
  unfold X3 at e
  unfold N4
  rw [List.find?_cons] at e ⊢
  rw [<- h1]
  cases hk:decide (p.1=k) with
  | true=>rw [hk] at e;cases e
  | false=>
   rw [hk] at e
   exact a0r t e
theorem a69:Looks X.K cl xe "dict" dctOf:=λμ S H x v G rx rp p=>by
 unfold dctOf at p
 cases x with
 | ref n=>
  cases rx with
  | ref e=>
   rename_i a
   dsimp only at p
   cases q1:S[n]? with
   | none=>rw [q1] at p;exact p.elim
   | some o=>
    rw [q1] at p
    cases o with
    | dct kvs=>
     obtain ⟨ks,h1,_⟩:=rp.ats n _ a q1 e
     exact ⟨.inr (.inr (.inl ⟨rfl,.inl ⟨_,h1⟩⟩)),(),by simp only [dctOf,q1]⟩
    | lst _=>exact p.elim
    | exc _ _=>exact p.elim
 | _=>exact p.elim
theorem b31:b97 X.K cl xe (λx vs H Q=>∃ a y z ov,x=.ref a/\(vs=[y,z]\/(vs=[y]/\z=.non))/\DGet H a y ov/\Q (ov.getD z) H) getDD:=λμ S H x v ds vs Q rx rvs rp p=>by
 unfold getDD at p
 split at p
 ·rename_i n k z
  cases rvs with
  | cons hk t=>
   cases t with
   | cons hz t2=>
    cases t2
    rename_i kv zv
    cases rx with
    | ref e=>
     rename_i a
     cases q1:S[n]? with
     | none=>rw [q1] at p;exact p.elim
     | some o=>
      rw [q1] at p
      cases o with
      | dct kvs=>
       obtain ⟨ks,h1,h2⟩:=rp.ats n _ a q1 e
       dsimp only at p
       cases q2:D1 k with
       | none=>rw [q2] at p;exact p.elim
       | some key=>
        rw [q2] at p
        dsimp only at p
        have hy:=K3 hk q2
        subst hy
        refine ⟨a,_,zv,N4 ks key,rfl,.inl rfl,DGet.k h1,?_⟩
        cases q3:X3 kvs key with
        | some d=>
         obtain ⟨w,e3,r3⟩:=Y1 h2 q3
         rw [q3] at p
         rw [e3]
         exact p μ H (Lat.refl _ _) rp _ r3
        | none=>
         rw [q3] at p
         rw [a0r h2 q3]
         exact p μ H (Lat.refl _ _) rp _ hz
      | lst _=>exact p.elim
      | exc _ _=>exact p.elim
 ·rename_i n k
  cases rvs with
  | cons hk t=>
   cases t
   rename_i kv
   cases rx with
   | ref e=>
    rename_i a
    cases q1:S[n]? with
    | none=>rw [q1] at p;exact p.elim
    | some o=>
     rw [q1] at p
     cases o with
     | dct kvs=>
      obtain ⟨ks,h1,h2⟩:=rp.ats n _ a q1 e
      dsimp only at p
      cases q2:D1 k with
      | none=>rw [q2] at p;exact p.elim
      | some key=>
       rw [q2] at p
       dsimp only at p
       have hy:=K3 hk q2
       subst hy
       refine ⟨a,_,.non,N4 ks key,rfl,.inr ⟨rfl,rfl⟩,DGet.k h1,?_⟩
       cases q3:X3 kvs key with
       | some d=>
        obtain ⟨w,e3,r3⟩:=Y1 h2 q3
        rw [q3] at p
        rw [e3]
        exact p μ H (Lat.refl _ _) rp _ r3
       | none=>
        rw [q3] at p
        rw [a0r h2 q3]
        exact p μ H (Lat.refl _ _) rp _ .non
     | lst _=>exact p.elim
     | exc _ _=>exact p.elim
 ·exact p.elim
end
section
variable {X:Cx} {cl:Nat->Addr} {xe:Addr->Hp->Prop} {o e:Expr} {es:List Expr} {f:Env->M D} {p p2 pos pos2:Pos} {te:TE}
noncomputable def rgL (n:Nat):List Int:=(List.range n).map λ(k:Nat)=>(k:Int)
theorem b81 {acc:List Value} {n:Nat} (hl:acc.length=n) (h:∀ (i:Nat) (v:Value),acc[i]?=some v->∃ t,v=Value.int (i:Int) t):Vals ((rgL n).map V.int) acc:=by
 have gen:∀ (k:Nat) (l:List Value) (b:Nat),l.length=k->(∀ (i:Nat) (v:Value),l[i]?=some v->∃ t,v=Value.int ((b+i:Nat):Int) t)->Vals ((List.range' b k).map λ(j:Nat)=>V.int (j:Int)) l:=by
  intro k
  induction k with
  | zero=>intro l b hl _;cases l with
   | nil=>exact .nil
   | cons _ _=>simp at hl
  | succ k ih=>
   intro l b hl hv
   cases l with
   | nil=>simp at hl
   | cons v l=>
    rw [List.range'_succ,List.map_cons]
    refine .cons ?_ (ih l (b+1) (by simpa using hl) λi w hw=>?_)
    ·obtain ⟨t,e⟩:=hv 0 v rfl
     exact ⟨t,by rw [e];simp⟩
    ·obtain ⟨t,e⟩:=hv (i+1) w (by simpa using hw)
     exact ⟨t,by rw [e];congr 2;omega⟩
 have:=gen n acc 0 hl λi v hv=>by
  obtain ⟨t,e⟩:=h i v hv
  exact ⟨t,by rw [e];simp⟩
 unfold rgL
 rw [List.map_map,List.range_eq_range']
 exact this
noncomputable def b8d (te:TE):TE:=λσ H Q=>te σ H λx H1=>∃ n:Nat,x=.int (n:Int)/\n<100000/\∀ q,H1 q=none->Q (.ref q) (upd H1 q (.lst ((rgL n).map V.int)))
theorem b0r (hc:X.calm=true) (hl:Gl X "list") (ml:X.mg "list" = none) (hr:Gl X "range") (mr:X.mg "range" = none) (he:PE X e te) (hn:noStar e=true):PE X (.Call (.Name "list" p) [.Call (.Name "range" p2) [e] [] pos2] [] pos) (b8d te):=by
 intro pins s σ H Q I h
 have hh:X.A.handled=none:=I.ok.hd hc
 refine wpAny_Call_Name_kw (J8 I hl ml (by rfl) ?_ (by decide) (by decide))
 refine PyProof.Rows.callWith_type1 ?_ rfl rfl
 show wpAny _ _ (spliced ((false,eval (.Call (.Name "range" p2) [e] [] pos2) X.env) :: backTo pos (starEach [] X.env))) _ _ s
 refine Calls.spliced_cons ?_
 refine wpAny_Call_Name_kw (J8 I hr mr boot_range ?_ (by decide) (by decide))
 refine PyProof.Rows.callWith_type1 ?_ (k6 hn) rfl
 rw [k6 hn]
 show wpAny _ _ (spliced ((false,eval e X.env) :: backTo pos2 (starEach [] X.env))) _ _ s
 refine Calls.spliced_cons (thn (he pins s σ H _ I h) λu s1 ⟨x,H1,I1,r1,n,e1,hz,q⟩=>?_)
 subst e1
 obtain ⟨t,rfl⟩:=r1
 refine Calls.spliced_nil (call_range_1 (Calls.spliced_nil ?_))
 have rs:Builtin.Range.rangeSize 0 (n:Int) 1=(n:Int):=by rw [rangeSize_one];split <;> omega
 refine call_list_range hh (IsRange.new ..) (small_one (by omega) (by omega) (by omega) (by omega)) rs (by omega) λh' tk acc c hk hS hacc=>?_
 have I2:=I1.kept (t':=s1.toks+1+1) (h':=s1.heap.push { cls:=.type "range",data:=.fields #[.int 0 s1.toks,.int (n:Int) t,.int 1 (s1.toks+1)] }) λb ob q=>Heap.get?_push_of_some _ q
 refine ⟨.ref _,_,Inv.laid (t':=tk) (o:=.lst ((rgL n).map V.int)) I2 hk (Nat.le_refl _) ?_,rfl,q _ (I2.hok.fresh (Nat.le_refl _))⟩
 refine ⟨by rw [List.length_map];show (rgL n).length<=_;unfold rgL;rw [List.length_map,List.length_range,sizeLine_eq];omega,acc.toList,c,b81 (by rw [Array.length_toList];exact hacc.1) (λi v hv=>?_),?_⟩
 ·obtain ⟨t',e⟩:=hacc.2 i v (by rw [<- Array.getElem?_toList];exact hv)
  exact ⟨t',by rw [e];simp⟩
 ·rw [Array.toArray_toList];exact hS
noncomputable def Q2 (d:D):M D:=match d with
 | .int i=>if 0<=i/\i<100000 then ret (.lst ((rgL i.toNat).map D.int)) else bad
 | _=>bad
theorem a91 (hc:X.calm=true) (hl:Gl X "list") (ml:X.mg "list" = none) (hr:Gl X "range") (mr:X.mg "range" = none) (he:PE X e (tD X.K cl xe f)) (hn:noStar e=true):PE X (.Call (.Name "list" p) [.Call (.Name "range" p2) [e] [] pos2] [] pos) (tD X.K cl xe λρ=>bind (f ρ) Q2):=
 PE.imp (b0r hc hl ml hr mr he hn) λσ H Q ⟨μ,S,ρ,eo,rp,p⟩=>⟨μ,S,ρ,eo,rp,p.bind.imp λd S1 μ1 H1 l1 r1 p1 v rv=>by
  cases rv with
  | int i=>
   obtain ⟨hi,p1⟩:=Post.guard p1
   refine ⟨i.toNat,by rw [Int.toNat_of_nonneg hi.1],by omega,λz hz=>?_⟩
   obtain ⟨l,rp2,rd2⟩:=T0 r1 (RDs.ints (rgL i.toNat)) hz
   exact p1 μ1 _ l rp2 _ rd2
  | _=>exact False.elim p1⟩
end
end L3
end
section
set_option maxHeartbeats 4000000
namespace HT
open PySem PySem.Spec PyProof.Rows
end HT
namespace L3
open PySem PySem.Spec PyProof.Rows L2
end L3
end

section
set_option maxHeartbeats 1000000
namespace L2
open PySem PySem.Spec PyProof.Rows
end L2
namespace L3
open PySem PySem.Spec PyProof.Rows L2
end L3
end

section
set_option maxHeartbeats 1000000
namespace L3
open PySem PySem.Spec PyProof.Rows L2
noncomputable def u8:List D->Option (List Str)
 | []=>some []
 | .str x :: ds=>(u8 ds).map (x :: ·)
 | _=>none
noncomputable def countD (x:D) (ds:List D):M D:=match ds with
 | [.str w]=>bind (lstOf x) λes=>match u8 es with
  | some ys=>ret (.int (countIn (.str w) (ys.map PyData.str)))
  | none=>bad
 | _=>bad
theorem a3t {K:PySem.W.Frag} {μ:Mp} {H:Hp}:∀ {es:List D} {xs:List V} {ys:List Str},u8 es=some ys->RDs K μ H es xs->xs=ys.map V.str
 | [],_,_,e,r=>by cases e;cases r;rfl
 | d :: es,_,ys,e,r=>by
  cases d with
  | str x=>
   simp only [u8] at e
   cases q:u8 es with
   | none=>rw [q] at e;cases e
   | some zs=>
    rw [q] at e;cases e
    cases r with
    | cons h t=>cases h;rw [a3t q t];rfl
  | _=>simp only [u8] at e;cases e
theorem M8:∀ {ys:List Str} {us:List Value},Vals (ys.map V.str) us->StrsAre us ys
 | [],_,h=>by cases h;exact .nil
 | y :: ys,_,h=>by
  cases h with
  | cons r t=>
   obtain ⟨tk,rfl⟩:=r
   exact .cons _ _ (M8 t)
section
variable {X:Cx} {cl:Nat->Addr} {xe:Addr->Hp->Prop}
theorem b3h:MtR X "list.count" (λx vs H Q=>∃ (p:Addr) (ys:List Str) (w:Str),x=.ref p/\vs=[.str w]/\SqL X.K H p (ys.map V.str)/\Q (.int (countIn (.str w) (ys.map PyData.str))) H):=by
 intro pins s σ H x vs v us Q I rx rv h
 obtain ⟨p,ys,w,rfl,rfl,hq,q⟩:=h
 cases rx
 obtain ⟨u,rfl,ru⟩:=rv.one
 obtain ⟨t,rfl⟩:=ru
 obtain ⟨its,r',pl,hz⟩:=I.list hq
 exact count_list_strs pl.isList (M8 r') ⟨.int _,H,I.tok _,⟨_,rfl⟩,q⟩
theorem a7j:b97 X.K cl xe (λx vs H Q=>∃ (p:Addr) (ys:List Str) (w:Str),x=.ref p/\vs=[.str w]/\SqL X.K H p (ys.map V.str)/\Q (.int (countIn (.str w) (ys.map PyData.str))) H) countD:=λμ S H x v ds vs Q rx rvs rp p=>by
 unfold countD at p
 split at p
 ·rename_i w
  obtain ⟨a,xs,es,rfl,h1,h2,e⟩:=u0 rx rp p.bind
  have p:=p.ok_bind e
  cases rvs with
  | cons h t=>
   cases t;cases h
   cases q:u8 es with
   | none=>rw [q] at p;exact p.elim
   | some ys=>
    rw [q] at p
    have ex:=a3t q h2
    subst ex
    exact ⟨a,ys,w,rfl,rfl,.inl (.inl h1),p μ H (Lat.refl _ _) rp _ (.int _)⟩
 ·exact p.elim
end
noncomputable def N3:List Int->Int
 | []=>0
 | x :: xs=>x+N3 xs
theorem a53:∀ (xs ys:List Int),N3 (xs++ys)=N3 xs+N3 ys
 | [],ys=>by show N3 ys=0+N3 ys;omega
 | x :: xs,ys=>by show x+N3 (xs++ys)=x+N3 xs+N3 ys;rw [a53 xs ys];omega
theorem a9o (ns:List Int):∀ j,j<=ns.length->preSum (λi=>ns.getD i 0) j=N3 (ns.take j)
 | 0,_=>by simp [preSum,N3]
 | j+1,h=>by
  have hj:j<ns.length:=by omega
  rw [List.take_succ_eq_append_getElem hj,a53,<- a9o ns j (by omega)]
  show preSum _ j+ns.getD j 0=preSum _ j+(ns[j]+0)
  simp [hj]
section
variable {X:Cx} {cl:Nat->Addr} {xe:Addr->Hp->Prop}
theorem a80 {pins:List (Addr×Obj)} {s s':Shared} {σ:L2.St} {H:Hp} {Q:VK} {ns:List Int} {t':Nat} {o:Obj} (I:L2.Inv X pins σ H s) (q:Q (.int (N3 ns)) H) {m:Nat} (hm:m=ns.length)
  (mv:Moved [s.heap.objs.size] (λa b=>b=a) { s with heap:=s.heap.push o } s'):EP X pins σ Q (.int (preSum (λi=>ns.getD i 0) m) t') s':=by
 have e:preSum (λi=>ns.getD i 0) m=N3 ns:=by rw [hm,a9o ns ns.length (Nat.le_refl _),List.take_length]
 rw [e]
 obtain ⟨k,g,dr,os,tk⟩:=mv
 have es:s'={ s with heap:=s'.heap,toks:=s'.toks }:=by
  cases s';cases s
  simp only at g dr os ⊢
  subst g dr os
  rfl
 rw [es]
 refine ⟨.int (N3 ns),H,I.kept (t':=s'.toks) λb o eb=>?_,⟨_,rfl⟩,q⟩
 have nb:b<s.heap.objs.size:=Heap.lt_size eb
 exact k b o (by simp;exact Nat.ne_of_lt nb) (Heap.get?_push_of_some _ eb)
theorem a5m {ns:List Int} {its:List Value} (r':Vals (ns.map V.int) its):∀ (i:Nat) (v:Value),its.toArray[i]?=some v->∃ t,v=Value.int (ns.getD i 0) t:=by
 intro i v hP
 rw [List.getElem?_toArray] at hP
 have hl:its.length=ns.length:=by rw [<- r'.length,List.length_map]
 have hi:i<ns.length:=by
  have b:=(List.getElem?_eq_some_iff.mp hP).1
  omega
 obtain ⟨u,e1,rv⟩:=Vals.get r' (i:=i) (x:=V.int ns[i]) (by rw [List.getElem?_map,List.getElem?_eq_getElem hi];rfl)
 rw [e1] at hP;cases hP
 obtain ⟨t,rfl⟩:=rv
 exact ⟨t,by simp [hi]⟩
theorem b2u {s:Shared} {p:Addr} {o:Obj} (lt:p<s.heap.objs.size) (hf:o.isFreed=false:=by rfl):∀ b∈[s.heap.objs.size,p],b<(s.heap.push o).objs.size:=by
 intro b hb
 rcases List.mem_cons.mp hb with rfl | hb
 ·exact Heap.lt_size (Heap.get?_push_size _ hf)
 ·rw [List.mem_singleton.mp hb];exact Nat.lt_trans lt (Heap.lt_size (Heap.get?_push_size _ hf))
theorem a4e (hc:X.calm=true):o0 X (.builtin "sum") (λxs H Q=>∃ (p:Addr) (ns:List Int),xs=[.ref p]/\(SqL X.K H p (ns.map V.int)\/SqT X.K H p (ns.map V.int))/\Q (.int (N3 ns)) H):=by
 intro pins s σ H xs us Q I r h
 obtain ⟨p,ns,rfl,hq,q⟩:=h
 obtain ⟨u,rfl,rx⟩:=O0 r
 cases rx
 have hh:X.A.handled=none:=I.ok.hd hc
 rcases hq with hq | hq
 ·obtain ⟨its,r',pl,hz⟩:=I.list hq
  have lt:p<s.heap.objs.size:=by
   obtain ⟨o,ho,_⟩:=pl.isList
   exact Heap.lt_size ho
  have hl:its.toArray.size=ns.length:=by rw [List.size_toArray,<- r'.length,List.length_map]
  exact call_sum_walkAnyS (wpAny_pyIter_list pl.isList ⟨s.heap.objs.size,[s.heap.objs.size,p],[s.heap.objs.size],_,its.toArray.size,_,_,λi=>ns.getD i 0,rfl,(Walks.list (A:=X.A.in1) (show X.A.in1.handled=none from hh) _ _ (Nat.ne_of_lt lt) its.toArray).toS,⟨⟨_,Heap.get?_push_size _ rfl,rfl,rfl⟩,pl.isList.push _⟩,b2u lt,a5m r',λs' t' m=>a80 I q hl m⟩)
 ·obtain ⟨its,r',⟨o,ho,hcl,n,hd⟩,hz⟩:=I.tuple hq
  have pl:s.heap.IsTuple p its.toArray:=⟨o,ho,hcl,n,hd⟩
  have lt:p<s.heap.objs.size:=Heap.lt_size ho
  have hl:its.toArray.size=ns.length:=by rw [List.size_toArray,<- r'.length,List.length_map]
  exact call_sum_walkAnyS (wpAny_pyIter_tuple pl ⟨s.heap.objs.size,[s.heap.objs.size,p],[s.heap.objs.size],_,its.toArray.size,_,_,λi=>ns.getD i 0,rfl,(Walks.tuple (A:=X.A.in1) (show X.A.in1.handled=none from hh) _ _ (Nat.ne_of_lt lt) its.toArray).toS,⟨⟨_,Heap.get?_push_size _ rfl,rfl,rfl⟩,pl.push _⟩,b2u lt,a5m r',λs' t' m=>a80 I q hl m⟩)
noncomputable def b6r (d:D):M D:=bind (a1d d) λds=>match E8 ds with
 | some ns=>ret (.int (N3 ns))
 | none=>bad
theorem c8n (hc:X.calm=true):o0 X (.builtin "sum") (rPs X.K cl xe (one b6r)):=V6 λpins s σ H μ S d v us Q I r rd rp p=>by
 obtain ⟨a,xs,ds,rfl,h1,h2,e2⟩:=b2d rd rp p.bind
 have p:=p.ok_bind e2
 cases e:E8 ds with
 | none=>rw [e] at p;exact p.elim
 | some ns=>
  rw [e] at p
  have:=a3b e h2
  subst this
  exact a4e hc pins s σ H _ us Q I r ⟨a,ns,rfl,h1,p μ H (Lat.refl _ _) rp _ (.int _)⟩
end
noncomputable def countT (x:D) (ds:List D):M D:=match x,ds with
 | .tup es,[.str w]=>(match u8 es with
  | some ys=>ret (.int (countIn (.str w) (ys.map PyData.str)))
  | none=>bad)
 | _,_=>bad
section
variable {X:Cx} {cl:Nat->Addr} {xe:Addr->Hp->Prop}
theorem a9q:Looks X.K cl xe "tuple" tupOf:=λμ S H x v G rx rp p=>by
 cases rx with
 | tup h0 r0=>
  refine ⟨?_,_,rfl⟩
  rcases h0 with ⟨q,_,_⟩ | ⟨o,its,n,c1,c2,c3,c4,c5,c6⟩
  ·exact .inr (.inr (.inr (.inr ⟨rfl,_,q⟩)))
  ·exact .inr (.inl ⟨rfl,o,c1,c2,c6⟩)
 | _=>exact False.elim p
theorem b0s:MtR X "tuple.count" (λx vs H Q=>∃ (p:Addr) (ys:List Str) (w:Str),x=.ref p/\vs=[.str w]/\SqT X.K H p (ys.map V.str)/\Q (.int (countIn (.str w) (ys.map PyData.str))) H):=by
 intro pins s σ H x vs v us Q I rx rv h
 obtain ⟨p,ys,w,rfl,rfl,hq,q⟩:=h
 cases rx
 obtain ⟨u,rfl,ru⟩:=rv.one
 obtain ⟨t,rfl⟩:=ru
 obtain ⟨its,r',⟨⟨cls,dd,data,sl⟩,ho,hc,n,hd⟩,hz⟩:=I.tuple hq
 simp only at hc hd
 subst hc hd
 refine call_meets PySem.F.slot_tuple_count ⟨_,ho,rfl⟩ PySem.F.entry_tuple_count (PySem.F.args_tuple_count_2 _ _) (PySem.SeqAt.tuple_countAt p its.toArray n dd sl (.str w t) (isStrOf w)) ⟨ho,λy hy=>(eq_isStrOf w t (M8 r') y (by simpa using hy)).at _ _,?_⟩
 rw [show its.toArray.toList=its from rfl,countP_isStrOf_map w (M8 r')]
 exact ⟨.int _,H,I.tok _,⟨_,rfl⟩,q⟩
theorem a54:b97 X.K cl xe (λx vs H Q=>∃ (p:Addr) (ys:List Str) (w:Str),x=.ref p/\vs=[.str w]/\SqT X.K H p (ys.map V.str)/\Q (.int (countIn (.str w) (ys.map PyData.str))) H) countT:=λμ S H x v ds vs Q rx rvs rp p=>by
 unfold countT at p
 split at p
 ·rename_i es w
  cases rx with
  | tup h0 r0=>
   cases rvs with
   | cons h t=>
    cases t;cases h
    cases q:u8 es with
    | none=>rw [q] at p;exact p.elim
    | some ys=>
     rw [q] at p
     have ex:=a3t q r0
     subst ex
     exact ⟨_,ys,w,rfl,rfl,h0.sq,p μ H (Lat.refl _ _) rp _ (.int _)⟩
 ·exact p.elim
end
noncomputable def CXr (P:Program) (w:World) (K:PySem.W.Frag):List PySem.Env->Hp->Shared->XK->Value->Shared->Prop:=λouter H s E e s'=>
 ∃ a C d tb H',e=.ref a/\s'.os=s.os/\AllBare s'.gens/\Un (frs outer) [] H H' s.heap s'.heap/\HOk P w H' s'.heap/\Fx K H' a C d tb/\E e none H'
noncomputable abbrev CXd (P:Program) (w:World) (K:PySem.W.Frag):CXT:=⟨CXr P w K,false⟩
section
variable {K:PySem.W.Frag} {cl:Nat->Addr} {xe xe':Addr->Hp->Prop} {α β:Type} {μ:Mp} {H H':Hp} {S:Sto} {a C:Addr} {d tb:Option Addr} {P:Program} {w:World} {h:Heap}
theorem Post.ximp {r:R α} {G:α->Sto->Mp->Hp->Prop} (p:Post K cl xe μ H r G) (k:∀ n S μ' H' a,r=.exn n S->Lat μ H μ' H'->Rep K cl μ' S H'->μ'.pl[n]?=some a->xe a H'->xe' a H'):Post K cl xe' μ H r G:=by
 cases r with
 | ok a S=>exact p
 | exn n S=>exact λμ' H' a l r e=>k n S μ' H' a rfl l r e (p μ' H' a l r e)
 | bad=>exact p
noncomputable def nx (m:M α):M α:=λS=>match m S with
 | .exn _ _=>.bad
 | r=>r
theorem Post.nx {m:M α} {G:α->Sto->Mp->Hp->Prop} (p:Post K cl xe μ H (nx m S) G):Post K cl xe' μ H (m S) G:=by
 unfold L3.nx at p
 cases e:m S with
 | ok a S1=>rw [e] at p;exact p
 | exn n S1=>rw [e] at p;exact p.elim
 | bad=>rw [e] at p;exact p
theorem c33 {c:Nat} {fs:List (Str×D)} (hk:HOk P w H h) (o:OAt K cl μ H a (.exc c fs)) (e:H a=some (R9 tb a C d)) (ht:∀ T,tb=some T->T≠a/\H T=some (TbO T)):C=cl c/\Fx K H a C d tb:=by
 obtain ⟨xc,gs,q,fr,o⟩:=o
 obtain ⟨vs,q1,_⟩:=(hk a _ e).1
 rcases o with ⟨z,e2⟩ | ⟨d',h1,h2,e2,e3⟩
 ·obtain ⟨vs2,q2,_⟩:=(hk a _ e2).1
  rw [q1] at q2;cases q2
  exact ⟨rfl,xc,e,λd' z=>(nomatch z),ht⟩
 ·obtain ⟨vs2,q2,_⟩:=(hk a _ e2).1
  rw [q1] at q2;cases q2
  exact ⟨rfl,xc,e,λd2 z=>by cases z;exact ⟨h1,gs,e3⟩,ht⟩
theorem Rep.mv {n:Nat} (r:Rep K cl μ S H) (hk:HOk P w H h) (e:μ.pl[n]?=some a) (fx:H a=some (R9 tb a C d)) (m:Mv H a C d H'):Lat μ H μ H'/\Rep K cl μ S H':=by
 have am:a∈μ.pl:=List.mem_of_getElem? e
 have l:Lat μ H μ H':=⟨λ_ _ h=>h,λb o q nb=>m.1 b o (λz=>nb (z▸am)) q,λ_ h=>.inl h,rfl⟩
 refine ⟨l,r.len,r.nd,λi o b e1 e2=>?_,λb mb=>let ⟨h1,u,h2⟩:=r.res b mb;⟨h1,u,l.oth _ _ h2 h1⟩⟩
 have ho:=r.ats i o b e1 e2
 by_cases hb:b=a
 ·subst hb
  cases o with
  | lst ds=>obtain ⟨xs,q,_⟩:=ho;rw [fx] at q;simp [R9] at q
  | dct kvs=>obtain ⟨xs,q,_⟩:=ho;rw [fx] at q;simp [R9] at q
  | exc c fs=>
   obtain ⟨xc,gs,q,fr,o⟩:=ho
   obtain ⟨tb',m2⟩:=m.2
   obtain ⟨vs,q1,_⟩:=(hk b _ fx).1
   rcases o with ⟨z,e2⟩ | ⟨d',h1,h2,e2,e3⟩
   ·obtain ⟨vs2,q2,_⟩:=(hk b _ e2).1
    rw [q1] at q2;cases q2
    exact ⟨xc,gs,Paired.mono (λ_ _ ⟨z,w⟩=>⟨z,w.later l⟩) q,tb',.inl ⟨z,m2⟩⟩
   ·obtain ⟨vs2,q2,_⟩:=(hk b _ e2).1
    rw [q1] at q2;cases q2
    exact ⟨xc,gs,Paired.mono (λ_ _ ⟨z,w⟩=>⟨z,w.later l⟩) q,tb',.inr ⟨d',h1,h2,m2,m.1 d' _ h1 e3⟩⟩
 ·obtain ⟨u,q⟩:=ho.some
  exact ho.later l (by rw [q];exact m.1 b u hb q)
end
noncomputable def xOf (X:Cx) (a:Addr) (H:Hp):Prop:=∀ (pins:List (Addr×Obj)) (σ:L2.St) (s:Shared) (C:Addr) (d tb:Option Addr),L2.Inv X pins σ H s->Fx X.K H a C d tb->X.xe (.ref a) s
noncomputable def spX (K:PySem.W.Frag) (cl:Nat->Addr) (n:Nat) (run:List D->M D):Sp:=λvs H Q E=>vs.length=n/\∃ μ S ds,RDs K μ H ds vs/\Rep K cl μ S H/\Post K cl (b5u E) μ H (run ds S) λd _ μ' H'=>∀ v,RD K μ' H' d v->Q v H'
section
variable {X:Cx} {cl:Nat->Addr} {e:Expr} {es:List Expr} {f:Env->M D} {pos p:Pos}
noncomputable def y3 (d:D):M Fl:=match d with
 | .ref n=>λS=>match S[n]? with
  | some (.exc _ _)=>.exn n S
  | _=>.bad
 | _=>bad
theorem b3t (hc:X.calm=true) (h:PE X e (tDf X.K cl (xOf X) f)):PS X (.Raise (some e) none pos) (sD X.K cl (xOf X) λρ=>bind (f ρ) y3):=by
 intro pins s σ H D I ⟨μ,S,ρ,eo,rp,p⟩
 show wpAny _ _ (do standAt pos;raiseStmt X.env (some (do let v <- eval e X.env;standAt pos;pure v)) none) _ _ _
 refine wpAny_bind (wpAny_standAt (a32 (K:=X.K) (I.ok.hd hc) (wpAny_bind (wpAny_mono (h pins s σ H (λv H1=>∃ (x C:Addr) (d:Option Addr) (μ1:Mp) (S1:Sto) (n c:Nat) (fs:List (Str×L3.D)),v=.ref x/\XC X.K C/\H1 x=some (N6 x C d)/\Rep X.K cl μ1 S1 H1/\S1[n]?=some (O.exc c fs)/\μ1.pl[n]?=some x/\xOf X x H1) I ⟨μ,S,ρ,eo,rp,p.bind.imp λd S1 μ1 H1 l1 r1 p1 v rv fr=>?_⟩)
  (λu s1 ⟨v,H1,I1,ru,x,C,d,μ1,S1,n,c,fs,ev,xc,ex,r1,e1,e2,xo⟩=>wpAny_bind (wpAny_standAt (wpAny_pure ?_))) λ_ _ z=>z))))
 ·cases rv with
  | ref hp=>
   rename_i n a
   obtain ⟨x,C,d,ev,xc,ex⟩:=fr
   cases ev
   simp only [y3] at p1
   cases q:S1[n]? with
   | none=>rw [q] at p1;exact p1.elim
   | some o=>
    rw [q] at p1
    cases o with
    | exc c fs=>exact ⟨_,C,d,μ1,S1,n,c,fs,rfl,xc,ex,r1,q,hp,p1 μ1 H1 _ (Lat.refl _ _) r1 hp⟩
    | lst _=>exact p1.elim
    | dct _=>exact p1.elim
  | _=>exact False.elim p1
 ·subst ev
  obtain rfl:u=Value.ref x:=ru
  have fx:=(c33 I1.hok (r1.ats n _ x e1 e2) ex λT z=>(nomatch z)).2
  exact ⟨x,C,d,rfl,I1.kIn,xc,I1.isX ex,xo pins σ s1 C d none I1 fx⟩
end
section
variable {K:PySem.W.Frag} {cl:Nat->Addr} {xe xe':Addr->Hp->Prop} {α:Type} {μ:Mp} {H:Hp}
theorem Post.up {r:R α} {G:α->Sto->Mp->Hp->Prop} (p:Post K cl xe μ H r G) (k:∀ a H',xe a H'->xe' a H'):Post K cl xe' μ H r G:=p.ximp λ_ _ _ H' a _ _ _ _ h=>k a H' h
theorem Post.x0 {r:R α} {G:α->Sto->Mp->Hp->Prop} (p:Post K cl (b5u E0) μ H r G):Post K cl xe μ H r G:=p.up λ_ _ z=>False.elim z
end
noncomputable abbrev x0:Addr->Hp->Prop:=b5u E0
section
variable {X:Cx} {cl:Nat->Addr} {xe:Addr->Hp->Prop} {e tg:Expr} {es:List Expr}
theorem PE.x0 {f:Env->M D} (h:PE X e (tD X.K cl xe f)):PE X e (tD X.K cl x0 f):=PE.imp h λσ H Q ⟨μ,S,ρ,eo,rp,p⟩=>⟨μ,S,ρ,eo,rp,p.x0⟩
theorem PTL.x0 {f:Env->M Bool} (h:PTL X es (tBo X.K cl xe f)):PTL X es (tBo X.K cl x0 f):=λpins s σ H Q I ⟨μ,S,ρ,eo,rp,p⟩=>h pins s σ H Q I ⟨μ,S,ρ,eo,rp,p.x0⟩
theorem PI.x0 {f:Env->M (Src×Nat)} (h:PI X tg e (tIt X.K cl xe f)):PI X tg e (tIt X.K cl x0 f):=PI.imp h λσ H Q ⟨μ,S,ρ,eo,rp,p⟩=>⟨μ,S,ρ,eo,rp,p.x0⟩
theorem PSs.x0 {sts:List Stmt} {f:Env->M Fl} (h:PSs X sts (sD X.K cl xe f)):PSs X sts (sD X.K cl x0 f):=PSs.imp h λD σ H ⟨μ,S,ρ,eo,rp,p⟩=>⟨μ,S,ρ,eo,rp,p.x0⟩
theorem a77 {fs:Env->M (List D)} (h:PE X e (b4b X.K cl x0 fs)):PE X e (tD X.K cl xe λρ=>bind (nx (fs ρ)) λds=>ret (.lst ds)):=PE.imp h λσ H Q ⟨μ,S,ρ,eo,rp,p⟩=>
 ⟨μ,S,ρ,eo,rp,p.bind.nx.imp λds S1 μ1 H1 l1 r1 p1 acc ys hl rds=>p1.ret μ1 H1 (Lat.refl _ _) r1 _ (.lst hl rds)⟩
theorem c04:D4 (CXd X.prog X.w X.K) X (λev _ H=>∀ a,ev=.ref a->xOf X a H):=λpins σ H s e s' I ⟨a,C,d,tb,H',he,os,bare,un,hok,fx,q⟩=>by
 subst he
 exact q a rfl pins σ s' C d tb (I.call' (ch:=[]) os un hok bare λb z=>absurd z (by simp)) fx
theorem b3k {k n:Nat} {a:Addr} {fd:FuncData} {ps:List Str} {x:Str} {p pos:Pos} {fs:Env->M (List D)} {run:List D->M D} (F:FnOk X.prog X.w X.K X.mg X.base (CXd X.prog X.w X.K) k a fd ps (spX X.K cl n run)) (hr:Room false k X.A) (hg:Gl X x) (hm:X.mg x=some (.ref a)) (hk:PySem.W.keepIn X.K (.ref a)=true) (hb:Binds X.K fd ps [])
  (ha:PA X (e :: es) (tDs X.K cl (xOf X) fs)) (hdb:(x==("__debug__" : Str))=false) (hs:(e :: es).all noStar=true) :
  PE X (.Call (.Name x p) (e :: es) [] pos) (tD X.K cl (xOf X) λρ=>bind (fs ρ) λds=>if ds.length=n then run ds else bad):=by
 rw [List.all_cons,Bool.and_eq_true] at hs
 exact PE.imp (b9p F hr hg hm hk hb .nil c04 ha hdb (k6 hs.1) (w5 hs.2)) λσ H Q ⟨μ,S,ρ,eo,rp,p⟩=>
  ⟨μ,S,ρ,eo,rp,p.bind.imp λds S1 μ1 H1 l1 r1 p1 vs rvs=>by
   by_cases hd:ds.length=n
   ·rw [if_pos hd] at p1
    exact ⟨by rw [List.append_nil,<- rvs.length];exact hd,μ1,S1,ds,by rw [List.append_nil];exact rvs,r1,p1.up λa H' h a' z=>by cases z;exact h⟩
   ·rw [if_neg hd] at p1;exact p1.elim⟩
theorem b0p {k:Nat} {a:Addr} {fd:FuncData} {ps:List Str} {x:Str} {p pos:Pos} {run:List D->M D} (F:FnOk X.prog X.w X.K X.mg X.base (CXd X.prog X.w X.K) k a fd ps (spX X.K cl 0 run)) (hr:Room false k X.A) (hg:Gl X x) (hm:X.mg x=some (.ref a)) (hk:PySem.W.keepIn X.K (.ref a)=true) (hb:Binds X.K fd ps [])
  (hdb:(x==("__debug__" : Str))=false):PE X (.Call (.Name x p) [] [] pos) (tD X.K cl (xOf X) λρ=>run []):=PE.imp (b35 F hr hg hm hk hb .nil c04 hdb) λσ H Q ⟨μ,S,ρ,eo,rp,p⟩=>⟨rfl,μ,S,[],.nil,rp,p.up λa H' h a' z=>by cases z;exact h⟩
end
inductive G where
 | val (d:D) | fn (i n:Nat) | err (c:Nat) (fs:List Str) | dct (kvs:List (Str×D))
structure Gm where
 gl:List (Str×G)
 sub:Nat->Nat->Bool
 flds:List Str
 qs:List Nat:=[]
structure Lc where
 N:List Str
 sc:Scope
 fr:Bool
 mu:List Str
noncomputable def quiet (lc:Lc):Bool:=lc.mu.contains ("~" : Str)
structure Ev where
 e:Lc->Expr->Env->M D
 t:Lc->Expr->Env->M Bool
 s:Lc->Stmt->Env->M Fl
 i:Lc->Expr->Expr->Env->M (Src×Nat)
structure EvK where
 e:Lc->Expr->Env->∀ {α:Type},(D->M α)->M α
 t:Lc->Expr->Env->∀ {α:Type},(Bool->M α)->M α
 s:Lc->Stmt->Env->∀ {α:Type},(Fl->M α)->M α
 i:Lc->Expr->Expr->Env->∀ {α:Type},(Src×Nat->M α)->M α
structure EqK (r:Ev) (q:EvK):Prop where
 e:∀ lc e ρ {α:Type} (k:D->M α),q.e lc e ρ k=bind (r.e lc e ρ) k
 t:∀ lc e ρ {α:Type} (k:Bool->M α),q.t lc e ρ k=bind (r.t lc e ρ) k
 s:∀ lc e ρ {α:Type} (k:Fl->M α),q.s lc e ρ k=bind (r.s lc e ρ) k
 i:∀ lc g e ρ {α:Type} (k:Src×Nat->M α),q.i lc g e ρ k=bind (r.i lc g e ρ) k
theorem a44 {α β:Type} (k:α->M β):bind bad k=bad:=rfl
theorem w6 {α β:Type} {c:Prop} [Decidable c] (a b:M α) (k:α->M β):bind (if c then a else b) k=if c then bind a k else bind b k:=by split <;> rfl
theorem Y5 {α:Type} (m:M α):bind m ret=m:=by
 funext S;unfold bind ret;cases m S <;> rfl
noncomputable def n4:List Str->Str->Option Nat
 | [],_=>none
 | y :: ys,x=>if y=x then some 0 else (n4 ys x).map (· + 1)
theorem B9:∀ {N:List Str} {x:Str} {i:Nat},n4 N x=some i->N[i]?=some x
 | [],_,_,e=>by cases e
 | y :: ys,x,i,e=>by
  unfold n4 at e
  split at e
  ·rename_i h;cases e;simp [h]
  ·cases q:n4 ys x with
   | none=>rw [q] at e;cases e
   | some j=>rw [q] at e;cases e;simpa using B9 q
noncomputable def b5l (sc:Scope) (x:Str):Bool:=decide (sc.names.lookup x=some .local)||decide (sc.names.lookup x=some .cell)||decide (sc.names.lookup x=some .free)
noncomputable def a5r (sc:Scope) (x:Str):Bool:=decide (sc.names.lookup x=some .local)||decide (sc.names.lookup x=some .cell)
noncomputable def glB (sc:Scope) (x:Str):Bool:=decide (sc.names.lookup x=some .globalImplicit)
noncomputable def F8 (x:Str):Bool:=!(x==("__debug__" : Str))&&!(x==("__classdict__" : Str))&&!(x==("__name__" : Str))
theorem c02 {sc:Scope} {x:Str} (h:b5l sc x=true):Vis sc x:=by
 simpa [b5l,Vis,or_assoc] using h
theorem R3 {sc:Scope} {x:Str} (h:a5r sc x=true):L2.Loc sc x:=by
 simpa [a5r,L2.Loc] using h
theorem N1 {x:Str} (h:F8 x=true):(x==("__debug__" : Str))=false/\(x==("__classdict__" : Str))=false/\x ≠ "__name__":=by
 simpa [F8,and_assoc] using h
structure Tx where
 P:Program
 w:World
 K:PySem.W.Frag
 mg:Str->Option Value
 base:Heap
 cl:Nat->Addr
noncomputable def bnames:List Str:=["len","tuple","list","repr","isinstance","range","int","bool","str","dict","ValueError","all","any","sum","max","min","sorted","set","enumerate","abs","zip"]
noncomputable abbrev CXq (q:Bool):CXT:=⟨λ_ _ _ _ _ _=>False,q⟩
structure FnX (T:Tx) (k i n:Nat) (x:Str) (run:List D->M D):Prop where
 ex:∃ (a:Addr) (fd:FuncData) (ps:List Str),ps.length=n/\FnOk T.P T.w T.K T.mg T.base (CXd T.P T.w T.K) k a fd ps (spX T.K T.cl n run)/\T.mg x=some (.ref a)/\PySem.W.keepIn T.K (.ref a)=true/\Binds T.K fd ps []
structure FnAt (T:Tx) (k i n:Nat) (x:Str) (run:List D->M D):Prop where
 ex:∃ (a:Addr) (fd:FuncData) (ps:List Str),ps.length=n/\FnOk T.P T.w T.K T.mg T.base (CXq true) k a fd ps (spD T.K T.cl n run)/\T.mg x=some (.ref a)/\PySem.W.keepIn T.K (.ref a)=true/\Binds T.K fd ps []
structure ErrAt (T:Tx) (x:Str) (c:Nat) (fs:List Str):Prop where
 xc:XC T.K (T.cl c)
 mg_:T.mg x=some (.ref (T.cl c))
 ex:∃ (f:Addr) (fd:FuncData) (ps:List Str),PySem.W.findIn T.K (.ref (T.cl c)) "__init__" = some (some (.ref f))/\PySem.W.isFn T.K (.ref f)=true/\Binds T.K fd ps [] /\
  match fs with
  | []=>FnOk T.P T.w T.K T.mg T.base CX0 2 f fd ps (Hn.spHE T.K)
  | [g]=>FnOk T.P T.w T.K T.mg T.base CX0 2 f fd ps (Hn.sp1 T.K g)
  | [g,g2]=>FnOk T.P T.w T.K T.mg T.base CX0 2 f fd ps (Hn.sp2 T.K g g2)
  | _=>False
noncomputable def b33 (T:Tx) (x:Str) (kvs:List (Str×D)):Prop:=∃ (a:Addr) (es:Array DictEntry) (n:Nat),T.mg x=some (.ref a)/\T.K.lookup a=some ⟨.type "dict",none,.dict es n,#[]⟩/\PySem.W.KeysLit T.w.params es.toList/\∀ k d,kvs.lookup k=some d->∃ u v,PySem.W.nsIn T.K a k=some (some u)/\RelV v u/\∀ μ H,RD T.K μ H d v
structure TxOk (T:Tx) (Γ:Gm) (k:Nat) (C:Nat->List D->M D):Prop where
 blt:∀ x∈bnames,Γ.gl.lookup x=none->T.mg x=none
 val:∀ x d,Γ.gl.lookup x=some (.val d)->∃ u v,T.mg x=some u/\RelV v u/\∀ μ H,RD T.K μ H d v
 fn:∀ x i n,Γ.gl.lookup x=some (.fn i n)->i∉Γ.qs->FnX T k i n x (C i)
 fnq:∀ x i n,Γ.gl.lookup x=some (.fn i n)->i∈Γ.qs->FnAt T k i n x (C i)
 err:∀ x c fs,Γ.gl.lookup x=some (.err c fs)->ErrAt T x c fs/\(∀ g∈fs,A9 T.K (T.cl c) g)
 sub:∀ x c c0 fs,Γ.gl.lookup x=some (.err c0 fs)->XC T.K (T.cl c)->PySem.W.kitOne T.K (.ref (T.cl c)) (.ref (T.cl c0))=some (Γ.sub c c0)
 subV:∀ c,XC T.K (T.cl c)->PySem.W.kitOne T.K (.ref (T.cl c)) (.type "ValueError")=some true
 subT:∀ c,XC T.K (T.cl c)->∀ t∈tys,PySem.W.kitOne T.K (.ref (T.cl c)) (.type t)=some false
 fld:∀ g∈Γ.flds,∀ c,XC T.K (T.cl c)->A9 T.K (T.cl c) g
 dct:∀ x kvs,Γ.gl.lookup x=some (.dct kvs)->b33 T x kvs
 k3:3<=k
structure CxOk (T:Tx) (k:Nat) (lc:Lc) (X:Cx):Prop where
 prog:X.prog=T.P
 w:X.w=T.w
 K:X.K=T.K
 mg:X.mg=T.mg
 base:X.base=T.base
 N:X.N=lc.N
 nd:lc.N.Nodup
 sc:X.env.scope=lc.sc
 calm:quiet lc=false->X.calm=true
 room:Room (quiet lc) k X.A
 po:PassesOwn (model X.prog X.w) X.A X.env X.xe
 fn:X.fn=λ_=>lc.fr
 kd:lc.sc.kind=.function
 own:lc.fr=true->quiet lc=false->X.stack=X.env :: X.outer/\X.env.frame=some X.env.locals
structure EvOk (T:Tx) (k:Nat) (r:Ev):Prop where
 e:∀ lc X,CxOk T k lc X->∀ e,PE X e (tD T.K T.cl (xOf X) (r.e lc e))
 t:∀ lc X,CxOk T k lc X->∀ e,PT X e (tBo T.K T.cl (xOf X) (r.t lc e))
 s:∀ lc X,CxOk T k lc X->lc.fr=true->∀ st,PS X st (sD T.K T.cl (xOf X) (r.s lc st))
 i:∀ lc X,CxOk T k lc X->∀ g e,PI X g e (tIt T.K T.cl (xOf X) (r.i lc g e))
section
variable {T:Tx} {k:Nat} {r:Ev} {Γ:Gm} {C:Nat->List D->M D} {lc:Lc} {X:Cx} {pos:Pos}
theorem EvOk.ex (R:EvOk T k r) (h:CxOk T k lc X) (e:Expr):PE X e (tD X.K T.cl (xOf X) (r.e lc e)):=by rw [h.K];exact R.e lc X h e
theorem EvOk.tx (R:EvOk T k r) (h:CxOk T k lc X) (e:Expr):PT X e (tBo X.K T.cl (xOf X) (r.t lc e)):=by rw [h.K];exact R.t lc X h e
theorem EvOk.ix (R:EvOk T k r) (h:CxOk T k lc X) (g e:Expr):PI X g e (tIt X.K T.cl (xOf X) (r.i lc g e)):=by rw [h.K];exact R.i lc X h g e
theorem EvOk.sx (R:EvOk T k r) (h:CxOk T k lc X) (hf:lc.fr=true) (st:Stmt):PS X st (sD X.K T.cl (xOf X) (r.s lc st)):=by rw [h.K];exact R.s lc X h hf st
theorem CxOk.u64 (h:CxOk T k lc X):X.A.units+64<cLine:=h.room.units
theorem CxOk.u80 (h:CxOk T k lc X):X.A.units+80<cLine:=by have:=h.room.un;omega
theorem CxOk.u1 (h:CxOk T k lc X):X.A.units+1<cLine:=d0d h.room
theorem CxOk.gl (h:CxOk T k lc X) {x:Str} (hg:glB lc.sc x=true):Gl X x:=by
 show X.env.kindOf x=_
 unfold PySem.Env.kindOf
 rw [h.sc]
 exact of_decide_eq_true hg
theorem TxOk.none (TX:TxOk T Γ k C) (h:CxOk T k lc X) {x:Str} (hx:x∈bnames) (e:Γ.gl.lookup x=none):X.mg x=none:=by rw [h.mg];exact TX.blt x hx e
theorem CxOk.nd' (h:CxOk T k lc X):X.N.Nodup:=by rw [h.N];exact h.nd
theorem CxOk.fn1 (h:CxOk T k lc X) (hf:lc.fr=true) {x:Str}:X.fn x=true:=by rw [h.fn];exact hf
theorem CxOk.room0 (h:CxOk T k lc X) (hq:quiet lc=false):Room false k X.A:=by have:=h.room;rw [hq] at this;exact this
end
noncomputable abbrev Cf:=Nat->List D->M D
structure RuE:Type 1 where
 is:Gm->Lc->Expr->Bool
 run:Ev->Gm->Cf->Lc->Expr->Env->M D
 ok:∀ {T:Tx} {k:Nat} {r:Ev} {Γ:Gm} {C:Cf} {lc:Lc} {X:Cx} (e:Expr),EvOk T k r->TxOk T Γ k C->CxOk T k lc X->is Γ lc e=true->PE X e (tD X.K T.cl (xOf X) (run r Γ C lc e))
 runK:EvK->Gm->Cf->Lc->Expr->Env->∀ {α:Type},(D->M α)->M α
 eq:∀ {r:Ev} {q:EvK} {Γ:Gm} {C:Cf} {lc:Lc} (e:Expr) (ρ:Env) {α:Type} (k:D->M α),EqK r q->runK q Γ C lc e ρ k=bind (run r Γ C lc e ρ) k
structure RuT:Type 1 where
 is:Gm->Lc->Expr->Bool
 run:Ev->Gm->Cf->Lc->Expr->Env->M Bool
 ok:∀ {T:Tx} {k:Nat} {r:Ev} {Γ:Gm} {C:Cf} {lc:Lc} {X:Cx} (e:Expr),EvOk T k r->TxOk T Γ k C->CxOk T k lc X->is Γ lc e=true->PT X e (tBo X.K T.cl (xOf X) (run r Γ C lc e))
 runK:EvK->Gm->Cf->Lc->Expr->Env->∀ {α:Type},(Bool->M α)->M α
 eq:∀ {r:Ev} {q:EvK} {Γ:Gm} {C:Cf} {lc:Lc} (e:Expr) (ρ:Env) {α:Type} (k:Bool->M α),EqK r q->runK q Γ C lc e ρ k=bind (run r Γ C lc e ρ) k
structure RuS:Type 1 where
 is:Gm->Lc->Stmt->Bool
 run:Ev->Gm->Cf->Lc->Stmt->Env->M Fl
 ok:∀ {T:Tx} {k:Nat} {r:Ev} {Γ:Gm} {C:Cf} {lc:Lc} {X:Cx} (e:Stmt),EvOk T k r->TxOk T Γ k C->CxOk T k lc X->lc.fr=true->is Γ lc e=true->PS X e (sD X.K T.cl (xOf X) (run r Γ C lc e))
 runK:EvK->Gm->Cf->Lc->Stmt->Env->∀ {α:Type},(Fl->M α)->M α
 eq:∀ {r:Ev} {q:EvK} {Γ:Gm} {C:Cf} {lc:Lc} (e:Stmt) (ρ:Env) {α:Type} (k:Fl->M α),EqK r q->runK q Γ C lc e ρ k=bind (run r Γ C lc e ρ) k
structure RuI:Type 1 where
 is:Gm->Lc->Expr->Expr->Bool
 run:Ev->Gm->Cf->Lc->Expr->Env->M (Src×Nat)
 ok:∀ {T:Tx} {k:Nat} {r:Ev} {Γ:Gm} {C:Cf} {lc:Lc} {X:Cx} (g e:Expr),EvOk T k r->TxOk T Γ k C->CxOk T k lc X->is Γ lc g e=true->PI X g e (tIt X.K T.cl (xOf X) (run r Γ C lc e))
 runK:EvK->Gm->Cf->Lc->Expr->Env->∀ {α:Type},(Src×Nat->M α)->M α
 eq:∀ {r:Ev} {q:EvK} {Γ:Gm} {C:Cf} {lc:Lc} (e:Expr) (ρ:Env) {α:Type} (k:Src×Nat->M α),EqK r q->runK q Γ C lc e ρ k=bind (run r Γ C lc e ρ) k
structure Rules:Type 1 where
 es:List RuE
 ts:List RuT
 ss:List RuS
 is:List RuI
section
variable (Rs:Rules) (Γ:Gm) (C:Cf)
noncomputable def step (r:Ev):Ev:=
 ⟨λlc e=>match Rs.es.find? (λR=>R.is Γ lc e) with
  | some R=>R.run r Γ C lc e
  | none=>λ_=>bad,
 λlc e=>match Rs.ts.find? (λR=>R.is Γ lc e) with
  | some R=>R.run r Γ C lc e
  | none=>λ_=>bad,
 λlc e=>match Rs.ss.find? (λR=>R.is Γ lc e) with
  | some R=>R.run r Γ C lc e
  | none=>λ_=>bad,
 λlc g e=>match Rs.is.find? (λR=>R.is Γ lc g e) with
  | some R=>R.run r Γ C lc e
  | none=>λ_=>bad⟩
noncomputable def badEv:Ev:=⟨λ_ _ _=>bad,λ_ _ _=>bad,λ_ _ _=>bad,λ_ _ _ _=>bad⟩
noncomputable def ev:Nat->Ev
 | 0=>badEv
 | n+1=>step Rs Γ C (ev n)
noncomputable def c1w (q:EvK):EvK:=
 ⟨λlc e ρ _ k=>match Rs.es.find? (λR=>R.is Γ lc e) with
  | some R=>R.runK q Γ C lc e ρ k
  | none=>bad,
 λlc e ρ _ k=>match Rs.ts.find? (λR=>R.is Γ lc e) with
  | some R=>R.runK q Γ C lc e ρ k
  | none=>bad,
 λlc e ρ _ k=>match Rs.ss.find? (λR=>R.is Γ lc e) with
  | some R=>R.runK q Γ C lc e ρ k
  | none=>bad,
 λlc g e ρ _ k=>match Rs.is.find? (λR=>R.is Γ lc g e) with
  | some R=>R.runK q Γ C lc e ρ k
  | none=>bad⟩
noncomputable def d1m:EvK:=⟨λ_ _ _ _ _=>bad,λ_ _ _ _ _=>bad,λ_ _ _ _ _=>bad,λ_ _ _ _ _ _=>bad⟩
noncomputable def evK:Nat->EvK
 | 0=>d1m
 | n+1=>c1w Rs Γ C (evK n)
end
section
variable {Rs:Rules} {T:Tx} {k:Nat} {r:Ev} {q:EvK} {Γ:Gm} {C:Cf} {lc:Lc} {X:Cx}
theorem b8l (TX:TxOk T Γ k C) (R:EvOk T k r):EvOk T k (step Rs Γ C r):=by
 refine ⟨λlc X h e=>?_,λlc X h e=>?_,λlc X h hf e=>?_,λlc X h g e=>?_⟩
 ·rw [<- h.K]
  show PE X e (tD X.K T.cl (xOf X) (match Rs.es.find? (λR=>R.is Γ lc e) with
   | some R=>R.run r Γ C lc e
   | none=>λ_=>bad))
  cases hf:Rs.es.find? (λR=>R.is Γ lc e) with
  | none=>exact k5
  | some R0=>exact R0.ok e R TX h (by have:=List.find?_some hf;exact this)
 ·rw [<- h.K]
  show PT X e (tBo X.K T.cl (xOf X) (match Rs.ts.find? (λR=>R.is Γ lc e) with
   | some R=>R.run r Γ C lc e
   | none=>λ_=>bad))
  cases hf:Rs.ts.find? (λR=>R.is Γ lc e) with
  | none=>exact a6u
  | some R0=>exact R0.ok e R TX h (by have:=List.find?_some hf;exact this)
 ·rw [<- h.K]
  show PS X e (sD X.K T.cl (xOf X) (match Rs.ss.find? (λR=>R.is Γ lc e) with
   | some R=>R.run r Γ C lc e
   | none=>λ_=>bad))
  cases hq:Rs.ss.find? (λR=>R.is Γ lc e) with
  | none=>exact O7
  | some R0=>exact R0.ok e R TX h hf (by have:=List.find?_some hq;exact this)
 ·rw [<- h.K]
  show PI X g e (tIt X.K T.cl (xOf X) (match Rs.is.find? (λR=>R.is Γ lc g e) with
   | some R=>R.run r Γ C lc e
   | none=>λ_=>bad))
  cases hf:Rs.is.find? (λR=>R.is Γ lc g e) with
  | none=>exact a85
  | some R0=>exact R0.ok g e R TX h (by have:=List.find?_some hf;exact this)
theorem b5d:EvOk T k badEv:=⟨λlc X h e=>by rw [<- h.K];exact k5,λlc X h e=>by rw [<- h.K];exact a6u,λlc X h _ st=>by rw [<- h.K];exact O7,λlc X h g e=>by rw [<- h.K];exact a85⟩
theorem b6b (TX:TxOk T Γ k C):∀ n,EvOk T k (ev Rs Γ C n)
 | 0=>b5d
 | n+1=>b8l TX (b6b TX n)
theorem b74 (h:EqK r q):EqK (step Rs Γ C r) (c1w Rs Γ C q):=by
 refine ⟨λlc e ρ _ k=>?_,λlc e ρ _ k=>?_,λlc e ρ _ k=>?_,λlc g e ρ _ k=>?_⟩
 ·show (match Rs.es.find? (λ(R:RuE)=>R.is Γ lc e) with
   | some R=>R.runK q Γ C lc e ρ k
   | none=>bad)=bind ((match Rs.es.find? (λ(R:RuE)=>R.is Γ lc e) with
   | some R=>R.run r Γ C lc e
   | none=>λ_=>bad) ρ) k
  cases Rs.es.find? (λ(R:RuE)=>R.is Γ lc e) with
  | none=>rfl
  | some R0=>exact R0.eq e ρ k h
 ·show (match Rs.ts.find? (λ(R:RuT)=>R.is Γ lc e) with
   | some R=>R.runK q Γ C lc e ρ k
   | none=>bad)=bind ((match Rs.ts.find? (λ(R:RuT)=>R.is Γ lc e) with
   | some R=>R.run r Γ C lc e
   | none=>λ_=>bad) ρ) k
  cases Rs.ts.find? (λ(R:RuT)=>R.is Γ lc e) with
  | none=>rfl
  | some R0=>exact R0.eq e ρ k h
 ·show (match Rs.ss.find? (λ(R:RuS)=>R.is Γ lc e) with
   | some R=>R.runK q Γ C lc e ρ k
   | none=>bad)=bind ((match Rs.ss.find? (λ(R:RuS)=>R.is Γ lc e) with
   | some R=>R.run r Γ C lc e
   | none=>λ_=>bad) ρ) k
  cases Rs.ss.find? (λ(R:RuS)=>R.is Γ lc e) with
  | none=>rfl
  | some R0=>exact R0.eq e ρ k h
 ·show (match Rs.is.find? (λ(R:RuI)=>R.is Γ lc g e) with
   | some R=>R.runK q Γ C lc e ρ k
   | none=>bad)=bind ((match Rs.is.find? (λ(R:RuI)=>R.is Γ lc g e) with
   | some R=>R.run r Γ C lc e
   | none=>λ_=>bad) ρ) k
  cases Rs.is.find? (λ(R:RuI)=>R.is Γ lc g e) with
  | none=>rfl
  | some R0=>exact R0.eq e ρ k h
theorem c1o:∀ n,EqK (ev Rs Γ C n) (evK Rs Γ C n)
 | 0=>⟨λ_ _ _ _ _=>rfl,λ_ _ _ _ _=>rfl,λ_ _ _ _ _=>rfl,λ_ _ _ _ _ _=>rfl⟩
 | n+1=>b74 (c1o n)
end
section
variable (r:Ev) (q:EvK) (lc:Lc)
noncomputable def B1:List Expr->Env->M (List D)
 | [],_=>ret []
 | e :: es,ρ=>bind (r.e lc e ρ) λd=>bind (B1 es ρ) λds=>ret (d :: ds)
noncomputable def C8 {α:Type}:List Expr->Env->(List D->M α)->M α
 | [],_,k=>k []
 | e :: es,ρ,k=>q.e lc e ρ λd=>C8 es ρ λds=>k (d :: ds)
noncomputable def a1g:List Stmt->Env->M Fl
 | [],ρ=>ret (.nx ρ)
 | st :: sts,ρ=>c6t (r.s lc st) (a1g sts) ρ
noncomputable def k4 {α:Type}:List Stmt->Env->(Fl->M α)->M α
 | [],ρ,k=>k (.nx ρ)
 | st :: sts,ρ,k=>q.s lc st ρ λfl=>match fl with
  | .nx ρ'=>k4 sts ρ' k
  | fl=>k fl
end
section
variable {T:Tx} {k:Nat} {r:Ev} {q:EvK} {Γ:Gm} {C:Cf} {lc:Lc} {X:Cx} {pos:Pos}
theorem y0 (h:EqK r q):∀ (es:List Expr) (ρ:Env) {α:Type} (k:List D->M α),C8 q lc es ρ k=bind (B1 r lc es ρ) k
 | [],_,_,_=>rfl
 | e :: es,ρ,_,k=>by
  show q.e lc e ρ (λd=>C8 q lc es ρ λds=>k (d :: ds))=bind (bind (r.e lc e ρ) λd=>bind (B1 r lc es ρ) λds=>ret (d :: ds)) k
  rw [h.e,a8]
  congr;funext d
  rw [y0 h,a8];rfl
theorem a34 (h:EqK r q):∀ (sts:List Stmt) (ρ:Env) {α:Type} (k:Fl->M α),k4 q lc sts ρ k=bind (a1g r lc sts ρ) k
 | [],_,_,_=>rfl
 | st :: sts,ρ,_,k=>by
  show (q.s lc st ρ λfl=>match fl with
   | .nx ρ'=>k4 q lc sts ρ' k
   | fl=>k fl)=bind (bind (r.s lc st ρ) λfl=>match fl with
   | .nx ρ'=>a1g r lc sts ρ'
   | fl=>ret fl) k
  rw [h.s,a8]
  congr;funext fl
  cases fl with
  | nx ρ'=>exact a34 h sts ρ' k
  | bk ρ'=>rfl
  | ct ρ'=>rfl
  | rt d=>rfl
theorem A1 (R:EvOk T k r) (h:CxOk T k lc X):∀ {es:List Expr},es.all noStar=true->PA X es (tDs X.K T.cl (xOf X) (B1 r lc es))
 | [],_=>b8f
 | e :: es,hs=>by
  rw [List.all_cons,Bool.and_eq_true] at hs
  exact b3q (R.ex h e) (A1 R h hs.2) hs.1
theorem W2 (R:EvOk T k r) (h:CxOk T k lc X) (hf:lc.fr=true):∀ {sts:List Stmt},PSs X sts (sD X.K T.cl (xOf X) (a1g r lc sts))
 | []=>b19
 | st :: sts=>c0e (R.sx h hf st) (W2 R h hf)
end
noncomputable def b4i (c:Const):M D:=match c with
 | .int i=>ret (.int i)
 | .bool b=>ret (.bl b)
 | .none=>ret .non
 | .str x=>ret (.str x)
 | _=>bad
noncomputable def c2d {α:Type} (c:Const) (k:D->M α):M α:=match c with
 | .int i=>k (.int i)
 | .bool b=>k (.bl b)
 | .none=>k .non
 | .str x=>k (.str x)
 | _=>bad
noncomputable def c17:RuE where
 is _ _ e:=match e with
  | .Constant _ _ _=>true
  | _=>false
 run _ _ _ _ e _:=match e with
  | .Constant c _ _=>b4i c
  | _=>bad
 ok e R TX h hi:=by
  cases e with
  | Constant c n p=>
   show PE _ _ (tD _ _ _ λ_=>b4i c)
   cases c <;> first
    | exact J5 c12 λ_ _=>.int _
    | exact J5 c8s λ_ _=>.bl _
    | exact J5 c3c λ_ _=>.non
    | exact J5 c54 λ_ _=>.str _
    | exact k5
  | _=>exact k5
 runK _ _ _ _ e _ _ k:=match e with
  | .Constant c _ _=>c2d c k
  | _=>bad
 eq e ρ _ k h:=by
  cases e with
  | Constant c n p=>cases c <;> rfl
  | _=>rfl
noncomputable def a4i (Γ:Gm) (lc:Lc) (x:Str) (ρ:Env):M D:=match n4 lc.N x with
 | some i=>if b5l lc.sc x=true then getD i ρ else bad
 | none=>if glB lc.sc x=true then (match Γ.gl.lookup x with
  | some (.val d)=>ret d
  | _=>bad) else bad
noncomputable def c9y {α:Type} (i:Nat) (ρ:Env) (k:D->M α):M α:=match ρ[i]? with
 | some (some d)=>k d
 | _=>bad
noncomputable def b46 {α:Type} (Γ:Gm) (lc:Lc) (x:Str) (ρ:Env) (k:D->M α):M α:=match n4 lc.N x with
 | some i=>if b5l lc.sc x=true then c9y i ρ k else bad
 | none=>if glB lc.sc x=true then (match Γ.gl.lookup x with
  | some (.val d)=>k d
  | _=>bad) else bad
theorem c0d {T:Tx} {k:Nat} {Γ:Gm} {C:Cf} {lc:Lc} {X:Cx} {pos:Pos} (TX:TxOk T Γ k C) (h:CxOk T k lc X) {x:Str} (hn:F8 x=true):PE X (.Name x pos) (tD X.K T.cl (xOf X) (a4i Γ lc x)):=by
 unfold a4i
 obtain ⟨n1,n2,n3⟩:=N1 hn
 cases e:n4 lc.N x with
 | some i=>
  by_cases hv:b5l lc.sc x=true
  ·simp only [if_pos hv]
   exact c5k (b6p (by rw [h.N];exact B9 e) (by rw [h.sc];exact c02 hv) n1 n2)
  ·simp only [if_neg hv];exact k5
 | none=>
  by_cases hv:glB lc.sc x=true
  ·simp only [if_pos hv]
   cases e2:Γ.gl.lookup x with
   | none=>exact k5
   | some g=>
    cases g with
    | val d=>
     obtain ⟨u,v,e3,rv,rd⟩:=TX.val x d e2
     exact J5 (c0s (u:=u) (h.gl hv) (by rw [h.mg];exact e3) rv n1) λμ H=>by rw [h.K];exact rd μ H
    | fn i n=>exact k5
    | err c fs=>exact k5
    | dct kvs=>exact k5
  ·simp only [if_neg hv];exact k5
theorem b8s (Γ:Gm) (lc:Lc) (x:Str) (ρ:Env) {α:Type} (k:D->M α):b46 Γ lc x ρ k=bind (a4i Γ lc x ρ) k:=by
 unfold b46 a4i
 cases n4 lc.N x with
 | some i=>
  simp only []
  split
  ·unfold c9y getD
   cases ρ[i]? with
   | none=>rfl
   | some o=>cases o <;> rfl
  ·rfl
 | none=>
  simp only []
  split
  ·cases Γ.gl.lookup x with
   | none=>rfl
   | some g=>cases g <;> rfl
  ·rfl
noncomputable def c89:RuE where
 is _ _ e:=match e with
  | .Name x _=>F8 x
  | _=>false
 run _ Γ _ lc e ρ:=match e with
  | .Name x _=>a4i Γ lc x ρ
  | _=>bad
 ok e R TX h hi:=by
  cases e with
  | Name x p=>exact c0d TX h hi
  | _=>exact k5
 runK _ Γ _ lc e ρ _ k:=match e with
  | .Name x _=>b46 Γ lc x ρ k
  | _=>bad
 eq e ρ _ k h:=by
  cases e with
  | Name x p=>exact b8s _ _ x ρ k
  | _=>rfl
noncomputable def c47 (op:Operator):D->D->M D:=match op with
 | .Add=>f9
 | .Sub=>a08
 | .Mult=>C7
 | .Mod=>Z5
 | .FloorDiv=>G1
 | .Pow=>c0w
 | _=>λ_ _=>bad
noncomputable def b8 (op:CmpOp):D->D->M D:=match op with
 | .Eq=>eqD false
 | .NotEq=>eqD true
 | .Lt=>b43 λi j=>decide (i<j)
 | .LtE=>b43 λi j=>decide (i<=j)
 | .Gt=>b43 λi j=>decide (j<i)
 | .GtE=>b43 λi j=>decide (j<=i)
 | .In=>inD false
 | .NotIn=>inD true
 | .Is=>isD false
 | .IsNot=>isD true
theorem c3e {X:Cx} {cl:Nat->Addr} {xe:Addr->Hp->Prop} (op:Operator):OpR X (binaryOp op) (rP2 X.K cl xe (c47 op)):=by
 cases op <;> first
  | exact c92
  | exact c6z
  | exact c9i
  | exact c71
  | exact c2g
  | exact c9v
  | exact λpins s σ H x y v u Q I rx ry ⟨μ,S,d,e,rd,re,rp,p⟩=>p.elim
theorem a2t {T:Tx} {k:Nat} {lc:Lc} {X:Cx} {cl:Nat->Addr} {xe:Addr->Hp->Prop} (h:CxOk T k lc X) (op:CmpOp):OpR X (compareOp op) (rP2 X.K cl xe (b8 op)):=by
 cases op
 case Eq=>exact d1w h.u64
 case NotEq=>exact d2n h.u64
 case Lt=>exact a84 c7j
 case LtE=>exact a84 c7v
 case Gt=>exact a84 c9b
 case GtE=>exact a84 c8o
 case In=>exact c7g false h.u80
 case NotIn=>exact c7g true h.u80
 case Is=>exact c6q false
 case IsNot=>exact c6q true
noncomputable def d15:RuE where
 is _ _ e:=match e with
  | .BinOp _ _ _ _=>true
  | _=>false
 run r _ _ lc e ρ:=match e with
  | .BinOp a op b _=>bind (r.e lc a ρ) λx=>bind (r.e lc b ρ) λy=>c47 op x y
  | _=>bad
 ok e R TX h hi:=by
  cases e with
  | BinOp a op b p=>exact c5q (R.ex h _) (R.ex h _) (c3e _)
  | _=>exact k5
 runK q _ _ lc e ρ _ k:=match e with
  | .BinOp a op b _=>q.e lc a ρ λx=>q.e lc b ρ λy=>bind (c47 op x y) k
  | _=>bad
 eq e ρ _ k h:=by
  cases e with
  | BinOp a op b p=>simp only [h.e,a8]
  | _=>rfl
noncomputable def d2m:RuE where
 is _ _ e:=match e with
  | .UnaryOp .Not _ _=>true
  | _=>false
 run r _ _ lc e ρ:=match e with
  | .UnaryOp .Not a _=>bind (r.e lc a ρ) λd=>bind (j5 d) λk=>ret (.bl (!k))
  | _=>bad
 ok e R TX h hi:=by
  split at hi
  ·exact c36 (R.ex h _)
  ·cases hi
 runK q _ _ lc e ρ _ k:=match e with
  | .UnaryOp .Not a _=>q.e lc a ρ λd=>bind (j5 d) λc=>k (.bl (!c))
  | _=>bad
 eq e ρ _ k h:=by
  split
  ·simp only [h.e,a8,j9]
  ·first
   | rfl
   | (rename_i hn;split;exact (hn _ _ rfl).elim;rfl)
section
variable (r:Ev) (q:EvK) (lc:Lc)
noncomputable def b5a:List Expr->Env->M D
 | [],_=>bad
 | [a],ρ=>r.e lc a ρ
 | a :: b :: es,ρ=>bind (r.e lc a ρ) λd=>bind (j5 d) λq=>if q=true then b5a (b :: es) ρ else ret d
noncomputable def orE:List Expr->Env->M D
 | [],_=>bad
 | [a],ρ=>r.e lc a ρ
 | a :: b :: es,ρ=>bind (r.e lc a ρ) λd=>bind (j5 d) λq=>if q=true then ret d else orE (b :: es) ρ
noncomputable def b7v {α:Type}:List Expr->Env->(D->M α)->M α
 | [],_,_=>bad
 | [a],ρ,k=>q.e lc a ρ k
 | a :: b :: es,ρ,k=>q.e lc a ρ λd=>bind (j5 d) λc=>if c=true then b7v (b :: es) ρ k else k d
noncomputable def orK {α:Type}:List Expr->Env->(D->M α)->M α
 | [],_,_=>bad
 | [a],ρ,k=>q.e lc a ρ k
 | a :: b :: es,ρ,k=>q.e lc a ρ λd=>bind (j5 d) λc=>if c=true then k d else orK (b :: es) ρ k
noncomputable def b2g:List Expr->Env->M Bool
 | [],_=>bad
 | [a],ρ=>r.t lc a ρ
 | a :: b :: es,ρ=>bind (r.t lc a ρ) λq=>if q=true then b2g (b :: es) ρ else ret false
noncomputable def orB:List Expr->Env->M Bool
 | [],_=>bad
 | [a],ρ=>r.t lc a ρ
 | a :: b :: es,ρ=>bind (r.t lc a ρ) λq=>if q=true then ret true else orB (b :: es) ρ
noncomputable def a79 {α:Type}:List Expr->Env->(Bool->M α)->M α
 | [],_,_=>bad
 | [a],ρ,k=>q.t lc a ρ k
 | a :: b :: es,ρ,k=>q.t lc a ρ λc=>if c=true then a79 (b :: es) ρ k else k false
noncomputable def b8b {α:Type}:List Expr->Env->(Bool->M α)->M α
 | [],_,_=>bad
 | [a],ρ,k=>q.t lc a ρ k
 | a :: b :: es,ρ,k=>q.t lc a ρ λc=>if c=true then k true else b8b (b :: es) ρ k
end
section
variable {T:Tx} {k:Nat} {r:Ev} {q:EvK} {Γ:Gm} {C:Cf} {lc:Lc} {X:Cx} {pos:Pos}
theorem b4x (R:EvOk T k r) (h:CxOk T k lc X):∀ {es:List Expr},PE X (.BoolOp .And es pos) (tD X.K T.cl (xOf X) (b5a r lc es))
 | []=>k5
 | [a]=>b6n (R.ex h a)
 | a :: b :: es=>c3i (R.ex h a) (b4x R h)
theorem c1v (R:EvOk T k r) (h:CxOk T k lc X):∀ {es:List Expr},PE X (.BoolOp .Or es pos) (tD X.K T.cl (xOf X) (orE r lc es))
 | []=>k5
 | [a]=>b6n (R.ex h a)
 | a :: b :: es=>c6n (R.ex h a) (c1v R h)
theorem a8u (R:EvOk T k r) (h:CxOk T k lc X):∀ {es:List Expr},PW X (.BoolOp .And es pos) (tBo X.K T.cl (xOf X) (b2g r lc es))
 | []=>pw_bad
 | [a]=>b75 (R.tx h a)
 | a :: b :: es=>c5i (R.tx h a) (a8u R h)
theorem b4q (R:EvOk T k r) (h:CxOk T k lc X):∀ {es:List Expr},PW X (.BoolOp .Or es pos) (tBo X.K T.cl (xOf X) (orB r lc es))
 | []=>pw_bad
 | [a]=>c2f (R.tx h a)
 | a :: b :: es=>c73 (R.tx h a) (b4q R h)
theorem b2m (h:EqK r q):∀ (es:List Expr) (ρ:Env) {α:Type} (k:D->M α),b7v q lc es ρ k=bind (b5a r lc es ρ) k
 | [],_,_,_=>rfl
 | [a],ρ,_,k=>h.e lc a ρ k
 | a :: b :: es,ρ,_,k=>by simp only [b7v,b5a,h.e,a8,w6,b2m h (b :: es),j9]
theorem c1d (h:EqK r q):∀ (es:List Expr) (ρ:Env) {α:Type} (k:D->M α),orK q lc es ρ k=bind (orE r lc es ρ) k
 | [],_,_,_=>rfl
 | [a],ρ,_,k=>h.e lc a ρ k
 | a :: b :: es,ρ,_,k=>by simp only [orK,orE,h.e,a8,w6,c1d h (b :: es),j9]
theorem a8v (h:EqK r q):∀ (es:List Expr) (ρ:Env) {α:Type} (k:Bool->M α),a79 q lc es ρ k=bind (b2g r lc es ρ) k
 | [],_,_,_=>rfl
 | [a],ρ,_,k=>h.t lc a ρ k
 | a :: b :: es,ρ,_,k=>by simp only [a79,b2g,h.t,a8,w6,a8v h (b :: es),j9]
theorem b5o (h:EqK r q):∀ (es:List Expr) (ρ:Env) {α:Type} (k:Bool->M α),b8b q lc es ρ k=bind (orB r lc es ρ) k
 | [],_,_,_=>rfl
 | [a],ρ,_,k=>h.t lc a ρ k
 | a :: b :: es,ρ,_,k=>by simp only [b8b,orB,h.t,a8,w6,b5o h (b :: es),j9]
end
noncomputable def c8p:RuE where
 is _ _ e:=match e with
  | .BoolOp _ _ _=>true
  | _=>false
 run r _ _ lc e ρ:=match e with
  | .BoolOp .And es _=>b5a r lc es ρ
  | .BoolOp .Or es _=>orE r lc es ρ
  | _=>bad
 ok e R TX h hi:=by
  cases e with
  | BoolOp op es p=>cases op;exact b4x R h;exact c1v R h
  | _=>exact k5
 runK q _ _ lc e ρ _ k:=match e with
  | .BoolOp .And es _=>b7v q lc es ρ k
  | .BoolOp .Or es _=>orK q lc es ρ k
  | _=>bad
 eq e ρ _ k h:=by
  cases e with
  | BoolOp op es p=>cases op;exact b2m h es ρ k;exact c1d h es ρ k
  | _=>rfl
noncomputable def d0w:RuE where
 is _ _ e:=match e with
  | .Compare _ [_] [b] _=>z0 b
  | _=>false
 run r _ _ lc e ρ:=match e with
  | .Compare a [op] [b] _=>bind (r.e lc a ρ) λx=>bind (r.e lc b ρ) λy=>b8 op x y
  | _=>bad
 ok e R TX h hi:=by
  split at hi
  ·exact c39 (R.ex h _) (R.ex h _) (a2t h _) (U9 hi)
  ·cases hi
 runK q _ _ lc e ρ _ k:=match e with
  | .Compare a [op] [b] _=>q.e lc a ρ λx=>q.e lc b ρ λy=>bind (b8 op x y) k
  | _=>bad
 eq e ρ _ k h:=by
  split
  ·simp only [h.e,a8]
  ·first
   | rfl
   | (rename_i hn;split;exact (hn _ _ _ _ rfl).elim;rfl)
noncomputable def rIf:RuE where
 is _ _ e:=match e with
  | .IfExp _ _ _ _=>true
  | _=>false
 run r _ _ lc e ρ:=match e with
  | .IfExp c a b _=>bind (r.t lc c ρ) λq=>if q=true then r.e lc a ρ else r.e lc b ρ
  | _=>bad
 ok e R TX h hi:=by
  cases e with
  | IfExp c a b p=>exact c8l (R.tx h _) (R.ex h _) (R.ex h _)
  | _=>exact k5
 runK q _ _ lc e ρ _ k:=match e with
  | .IfExp c a b _=>q.t lc c ρ λz=>if z=true then q.e lc a ρ k else q.e lc b ρ k
  | _=>bad
 eq e ρ _ k h:=by
  cases e with
  | IfExp c a b p=>simp only [h.e,h.t,a8,w6]
  | _=>rfl
noncomputable def d1n:RuE where
 is _ _ e:=match e with
  | .Tuple es _ _=>es.all noStar
  | _=>false
 run r _ _ lc e ρ:=match e with
  | .Tuple es _ _=>bind (B1 r lc es ρ) c2j
  | _=>bad
 ok e R TX h hi:=by
  cases e with
  | Tuple es n p=>exact c31 (A1 R h hi)
  | _=>exact k5
 runK q _ _ lc e ρ _ k:=match e with
  | .Tuple es _ _=>C8 q lc es ρ λds=>bind (c2j ds) k
  | _=>bad
 eq e ρ _ k h:=by
  cases e with
  | Tuple es n p=>simp only [y0 h,a8]
  | _=>rfl
noncomputable def d0y:RuE where
 is _ _ e:=match e with
  | .List es _=>es.all noStar
  | _=>false
 run r _ _ lc e ρ:=match e with
  | .List es _=>bind (B1 r lc es ρ) c23
  | _=>bad
 ok e R TX h hi:=by
  cases e with
  | List es p=>exact c5c (A1 R h hi)
  | _=>exact k5
 runK q _ _ lc e ρ _ k:=match e with
  | .List es _=>C8 q lc es ρ λds=>bind (c23 ds) k
  | _=>bad
 eq e ρ _ k h:=by
  cases e with
  | List es p=>simp only [y0 h,a8]
  | _=>rfl
noncomputable def a0c (r:Ev) (lc:Lc):List (Option Expr)->List Expr->List ((Env->M D)×(Env->M D))
 | some k :: ks,v :: vs=>(r.e lc k,r.e lc v) :: a0c r lc ks vs
 | _,_=>[]
noncomputable def a23 (q:EvK) (lc:Lc) {α:Type}:List (Option Expr)->List Expr->Env->(List (D×D)->M α)->M α
 | some x :: ks,v :: vs,ρ,k=>q.e lc x ρ λa=>q.e lc v ρ λb=>a23 q lc ks vs ρ λps=>k ((a,b) :: ps)
 | _,_,_,k=>k []
theorem a4s {T:Tx} {k:Nat} {r:Ev} {lc:Lc} {X:Cx} {pos:Pos} (R:EvOk T k r) (h:CxOk T k lc X):∀ {ks:List (Option Expr)} {vs:List Expr},ks.all (·.isSome)=true->ks.length=vs.length->PPs X pos ks vs ((a0c r lc ks vs).map λfg=>(tD X.K T.cl (xOf X) fg.1,tD X.K T.cl (xOf X) fg.2))
 | [],[],_,_=>b7g
 | [],_ :: _,_,hl=>by simp at hl
 | _ :: _,[],_,hl=>by simp at hl
 | none :: _,_ :: _,ha,_=>by simp at ha
 | some k :: ks,v :: vs,ha,hl=>b49 (R.ex h k) (R.ex h v) (a4s R h (by simpa using ha) (by simpa using hl))
theorem a55 {r:Ev} {q:EvK} {lc:Lc} (h:EqK r q):∀ (ks:List (Option Expr)) (vs:List Expr) (ρ:Env) {α:Type} (k:List (D×D)->M α),a23 q lc ks vs ρ k=bind (D8 (a0c r lc ks vs) ρ) k
 | [],_,_,_,_=>rfl
 | none :: _,_,_,_,_=>rfl
 | some _ :: _,[],_,_,_=>rfl
 | some x :: ks,v :: vs,ρ,_,k=>by
  simp only [a23,a0c,D8,h.e,a8]
  congr;funext a
  congr;funext b
  rw [a55 h ks vs ρ];rfl
noncomputable def d1c:RuE where
 is _ _ e:=match e with
  | .Dict ks vs _=>ks.all (·.isSome)&&decide (ks.length=vs.length)&&decide (0<ks.length)&&decide (ks.length<=15)
  | _=>false
 run r _ _ lc e ρ:=match e with
  | .Dict ks vs _=>bind (D8 (a0c r lc ks vs) ρ) a7i
  | _=>bad
 ok e R TX h hi:=by
  cases e with
  | Dict ks vs p=>
   simp only [Bool.and_eq_true,decide_eq_true_eq] at hi
   exact b7l (a4s R h hi.1.1.1 hi.1.1.2) hi.1.1.1 hi.1.1.2 (by intro z;rw [z] at hi;simp at hi) hi.2
  | _=>exact k5
 runK q _ _ lc e ρ _ k:=match e with
  | .Dict ks vs _=>a23 q lc ks vs ρ λps=>bind (a7i ps) k
  | _=>bad
 eq e ρ _ k h:=by
  cases e with
  | Dict ks vs p=>simp only [a55 h,a8]
  | _=>rfl
noncomputable def rIx:RuE where
 is _ _ e:=match e with
  | .Subscript _ i _=>F9 i
  | _=>false
 run r _ _ lc e ρ:=match e with
  | .Subscript a i _=>bind (r.e lc a ρ) λx=>bind (r.e lc i ρ) λy=>ixD x y
  | _=>bad
 ok e R TX h hi:=by
  cases e with
  | Subscript a i p=>exact c8a (R.ex h _) (R.ex h _) (d2l h.u1) (a7u hi)
  | _=>exact k5
 runK q _ _ lc e ρ _ k:=match e with
  | .Subscript a i _=>q.e lc a ρ λx=>q.e lc i ρ λy=>bind (ixD x y) k
  | _=>bad
 eq e ρ _ k h:=by
  cases e with
  | Subscript a i p=>simp only [h.e,a8]
  | _=>rfl
noncomputable def a5v (r:Ev) (lc:Lc) (o:Option Expr) (ρ:Env):M (Option Int):=match o with
 | none=>ret none
 | some e=>bind (r.e lc e ρ) B6
noncomputable def a8r (q:EvK) (lc:Lc) {α:Type} (o:Option Expr) (ρ:Env) (k:Option Int->M α):M α:=match o with
 | none=>k none
 | some e=>q.e lc e ρ λd=>bind (B6 d) k
theorem b9n {r:Ev} {q:EvK} {lc:Lc} (h:EqK r q) (o:Option Expr) (ρ:Env) {α:Type} (k:Option Int->M α):a8r q lc o ρ k=bind (a5v r lc o ρ) k:=by
 cases o with
 | none=>rfl
 | some e=>simp only [a8r,a5v,h.e,a8]
theorem a8i {T:Tx} {k:Nat} {r:Ev} {lc:Lc} {X:Cx} (R:EvOk T k r) (h:CxOk T k lc X) {o:Option Expr}:PO X o (tPt X.K T.cl (xOf X) (a5v r lc o)):=by
 cases o with
 | none=>exact b9q
 | some e=>exact b7q (R.ex h e)
noncomputable def rSl:RuE where
 is _ _ e:=match e with
  | .Subscript _ (.Slice _ _ none _) _=>true
  | _=>false
 run r _ _ lc e ρ:=match e with
  | .Subscript a (.Slice lo hi none _) _=>bind (r.e lc a ρ) λd=>bind (a5v r lc lo ρ) λl=>bind (a5v r lc hi ρ) λu=>slD d l u
  | _=>bad
 ok e R TX h hi:=by
  split at hi
  ·exact c91 (R.ex h _) (a8i R h) (a8i R h)
  ·cases hi
 runK q _ _ lc e ρ _ k:=match e with
  | .Subscript a (.Slice lo hi none _) _=>q.e lc a ρ λd=>a8r q lc lo ρ λl=>a8r q lc hi ρ λu=>bind (slD d l u) k
  | _=>bad
 eq e ρ _ k h:=by
  split
  ·simp only [h.e,b9n h,a8]
  ·first
   | rfl
   | (rename_i hn;split;exact (hn _ _ _ _ _ rfl).elim;rfl)
noncomputable def c6e:RuE where
 is _ _ e:=match e with
  | .Compare _ [_,_] [_,c] _=>z0 c
  | _=>false
 run r _ _ lc e ρ:=match e with
  | .Compare a [op,op'] [b,c] _=>bind (r.e lc a ρ) λx=>bind (r.e lc b ρ) λy=>a3a (b8 op) (b8 op') x y (r.e lc c ρ)
  | _=>bad
 ok e R TX h hi:=by
  split at hi
  ·exact b6l (R.ex h _) (R.ex h _) (R.ex h _) (a2t h _) (a2t h _) (U9 hi)
  ·cases hi
 runK q _ _ lc e ρ _ k:=match e with
  | .Compare a [op,op'] [b,c] _=>q.e lc a ρ λx=>q.e lc b ρ λy=>bind (b8 op x y) λd=>bind (asB d) λz=>if z=true then q.e lc c ρ λw=>bind (b8 op' y w) k else k (.bl false)
  | _=>bad
 eq e ρ _ k h:=by
  split
  ·simp only [h.e,a3a,a8,w6,j9]
  ·first
   | rfl
   | (rename_i hn;split;exact (hn _ _ _ _ _ _ rfl).elim;rfl)
noncomputable def c56:RuT where
 is _ _ e:=match e with
  | .UnaryOp .Not _ _=>true
  | _=>false
 run r _ _ lc e ρ:=match e with
  | .UnaryOp .Not a _=>bind (r.t lc a ρ) λq=>ret (!q)
  | _=>bad
 ok e R TX h hi:=by
  split at hi
  ·exact c6d (R.tx h _)
  ·cases hi
 runK q _ _ lc e ρ _ k:=match e with
  | .UnaryOp .Not a _=>q.t lc a ρ λc=>k (!c)
  | _=>bad
 eq e ρ _ k h:=by
  split
  ·simp only [h.t,a8,j9]
  ·first
   | rfl
   | (rename_i hn;split;exact (hn _ _ rfl).elim;rfl)
noncomputable def c9a:RuT where
 is _ _ e:=match e with
  | .BoolOp _ _ _=>true
  | _=>false
 run r _ _ lc e ρ:=match e with
  | .BoolOp .And es _=>b2g r lc es ρ
  | .BoolOp .Or es _=>orB r lc es ρ
  | _=>bad
 ok e R TX h hi:=by
  cases e with
  | BoolOp op es p=>cases op;exact (a8u R h).pt;exact (b4q R h).pt
  | _=>exact a6u
 runK q _ _ lc e ρ _ k:=match e with
  | .BoolOp .And es _=>a79 q lc es ρ k
  | .BoolOp .Or es _=>b8b q lc es ρ k
  | _=>bad
 eq e ρ _ k h:=by
  cases e with
  | BoolOp op es p=>cases op;exact a8v h es ρ k;exact b5o h es ρ k
  | _=>rfl
noncomputable def d1i:RuT where
 is _ _ e:=match e with
  | .Compare _ [_] [b] _=>z0 b
  | _=>false
 run r _ _ lc e ρ:=match e with
  | .Compare a [op] [b] _=>bind (r.e lc a ρ) λx=>bind (r.e lc b ρ) λy=>bind (b8 op x y) asB
  | _=>bad
 ok e R TX h hi:=by
  split at hi
  ·exact c38 (R.ex h _) (R.ex h _) (a2t h _) (U9 hi)
  ·cases hi
 runK q _ _ lc e ρ _ k:=match e with
  | .Compare a [op] [b] _=>q.e lc a ρ λx=>q.e lc b ρ λy=>bind (b8 op x y) λd=>bind (asB d) k
  | _=>bad
 eq e ρ _ k h:=by
  split
  ·simp only [h.e,a8]
  ·first
   | rfl
   | (rename_i hn;split;exact (hn _ _ _ _ rfl).elim;rfl)
noncomputable def c44:RuT where
 is _ _ e:=E6 e
 run r _ _ lc e ρ:=bind (r.e lc e ρ) j5
 ok e R TX h hi:=b3c (R.ex h _) hi
 runK q _ _ lc e ρ _ k:=q.e lc e ρ λd=>bind (j5 d) k
 eq e ρ _ k h:=by simp only [h.e,a8]
noncomputable def c46 (Γ:Gm) (x:Str) (p:Nat->Nat->Bool):Bool:=match Γ.gl.lookup x with
 | some (.fn i n)=>p i n
 | _=>false
theorem b7z {Γ:Gm} {x:Str} {p:Nat->Nat->Bool} (h:c46 Γ x p=true):∃ i n,Γ.gl.lookup x=some (.fn i n)/\p i n=true:=by
 unfold c46 at h
 split at h
 ·rename_i i n e;exact ⟨i,n,e,h⟩
 ·cases h
noncomputable def rFn:RuE where
 is Γ lc e:=match e with
  | .Call (.Name x _) es [] _=>F8 x&&glB lc.sc x&&es.all noStar&&!quiet lc&&c46 Γ x λi n=>decide (es.length=n)&&decide (i∉Γ.qs)
  | _=>false
 run r Γ C lc e ρ:=match e with
  | .Call (.Name x _) es [] _=>(match Γ.gl.lookup x with
   | some (.fn i n)=>bind (B1 r lc es ρ) λds=>if ds.length=n then C i ds else bad
   | _=>bad)
  | _=>bad
 ok {T k r Γ C lc X} e R TX h hi:=by
  split at hi
  ·rename_i x p es pos
   simp only [Bool.and_eq_true,Bool.not_eq_true'] at hi
   obtain ⟨⟨⟨⟨c1,c2⟩,c3⟩,c4⟩,c5⟩:=hi
   obtain ⟨n1,n2,n3⟩:=N1 c1
   obtain ⟨i,n,e1,c6⟩:=b7z c5
   simp only [Bool.and_eq_true,decide_eq_true_eq] at c6
   obtain ⟨a,fd,ps,f1,f2,f3,f4,f5⟩:=(TX.fn x i n e1 c6.2).ex
   have F:FnOk X.prog X.w X.K X.mg X.base (CXd X.prog X.w X.K) k a fd ps (spX X.K T.cl n (C i)):=by rw [h.prog,h.w,h.K,h.mg,h.base];exact f2
   have hk:PySem.W.keepIn X.K (.ref a)=true:=by rw [h.K];exact f4
   have hb:Binds X.K fd ps []:=by rw [h.K];exact f5
   have hm:X.mg x=some (.ref a):=by rw [h.mg];exact f3
   show PE X _ (tD X.K T.cl (xOf X) λρ=>(match Γ.gl.lookup x with
    | some (.fn i n)=>bind (B1 r lc es ρ) λds=>if ds.length=n then C i ds else bad
    | _=>bad))
   rw [e1]
   match es,c3,c6 with
   | [],_,c6=>
    have:n=0:=c6.1.symm
    subst this
    exact b0p F (h.room0 c4) (h.gl c2) hm hk hb n1
   | e :: es,c3,_=>exact b3k F (h.room0 c4) (h.gl c2) hm hk hb (A1 R h c3) n1 c3
  ·cases hi
 runK q Γ C lc e ρ _ k:=match e with
  | .Call (.Name x _) es [] _=>(match Γ.gl.lookup x with
   | some (.fn i n)=>C8 q lc es ρ λds=>if ds.length=n then bind (C i ds) k else bad
   | _=>bad)
  | _=>bad
 eq {r q Γ C lc} e ρ _ k h:=by
  split
  ·rename_i x p es pos
   cases Γ.gl.lookup x with
   | none=>rfl
   | some g=>cases g <;> first | rfl | simp only [y0 h,a8,w6,a44]
  ·first
   | rfl
   | (rename_i hn;split;exact (hn _ _ _ _ rfl).elim;rfl)
noncomputable def b0t (r:Ev) (Γ:Gm) (lc:Lc) (x:Str) (es:List Expr) (ρ:Env):M D:=match Γ.gl.lookup x with
 | some (.err c fs)=>(match fs with
  | []=>bind (B1 r lc es ρ) (b4d c)
  | [g]=>bind (B1 r lc es ρ) (E4 c [g])
  | [g,g2]=>bind (B1 r lc es ρ) (E4 c [g,g2])
  | _=>bad)
 | _=>bad
noncomputable def c0z (q:EvK) (Γ:Gm) (lc:Lc) (x:Str) (es:List Expr) (ρ:Env) {α:Type} (k:D->M α):M α:=match Γ.gl.lookup x with
 | some (.err c fs)=>(match fs with
  | []=>C8 q lc es ρ λds=>bind (b4d c ds) k
  | [g]=>C8 q lc es ρ λds=>bind (E4 c [g] ds) k
  | [g,g2]=>C8 q lc es ρ λds=>bind (E4 c [g,g2] ds) k
  | _=>bad)
 | _=>bad
theorem b2x {r:Ev} {q:EvK} {Γ:Gm} {lc:Lc} (h:EqK r q) (x:Str) (es:List Expr) (ρ:Env) {α:Type} (k:D->M α):c0z q Γ lc x es ρ k=bind (b0t r Γ lc x es ρ) k:=by
 unfold c0z b0t
 cases Γ.gl.lookup x with
 | none=>rfl
 | some g=>
  cases g with
  | err c fs=>
   match fs with
   | []=>simp only [y0 h,a8]
   | [g]=>simp only [y0 h,a8]
   | [g,g2]=>simp only [y0 h,a8]
   | _ :: _ :: _ :: _=>rfl
  | _=>rfl
theorem a8l {T:Tx} {k:Nat} {r:Ev} {Γ:Gm} {C:Cf} {lc:Lc} {X:Cx} {x:Str} {p pos:Pos} {e:Expr} {es:List Expr} (R:EvOk T k r) (TX:TxOk T Γ k C) (h:CxOk T k lc X) (c1:F8 x=true) (c2:glB lc.sc x=true) (c3:(e :: es).all noStar=true) (c4:quiet lc=false) :
  PE X (.Call (.Name x p) (e :: es) [] pos) (tDf X.K T.cl (xOf X) (b0t r Γ lc x (e :: es))):=by
 have bd:PE X (.Call (.Name x p) (e :: es) [] pos) (tDf X.K T.cl (xOf X) λρ=>bad):=λ_ _ _ _ _ _ ⟨_,_,_,_,_,z⟩=>z.elim
 obtain ⟨n1,n2,n3⟩:=N1 c1
 have ha:=A1 R h c3
 unfold b0t
 cases e1:Γ.gl.lookup x with
 | none=>exact bd
 | some g=>
  cases g with
  | val d=>exact bd
  | fn i n=>exact bd
  | dct kvs=>exact bd
  | err c fs=>
   obtain ⟨ea,na⟩:=TX.err x c fs e1
   obtain ⟨f,fd,ps,g1,g2,g3,g4⟩:=ea.ex
   have xc:XC X.K (T.cl c):=by rw [h.K];exact ea.xc
   have hm:X.mg x=some (.ref (T.cl c)):=by rw [h.mg];exact ea.mg_
   have hr:Room false (2+1) X.A:=(h.room0 c4).mono TX.k3
   have hi:PySem.W.findIn X.K (.ref (T.cl c)) "__init__" = some (some (.ref f)):=by rw [h.K];exact g1
   have hf:PySem.W.isFn X.K (.ref f)=true:=by rw [h.K];exact g2
   have hb:Binds X.K fd ps []:=by rw [h.K];exact g3
   match fs,g4,na with
   | [],g4,na=>exact b4h (E:=E0) xc hi hf (by rw [h.prog,h.w,h.K,h.mg,h.base];exact g4) hr (h.gl c2) hm hb a5t ha n1 c3
   | [g],g4,na=>exact b6i (E:=E0) xc (by rw [h.K];exact na g (by simp)) hi hf (by rw [h.prog,h.w,h.K,h.mg,h.base];exact g4) hr (h.gl c2) hm hb a5t ha n1 c3
   | [g,g'],g4,na=>exact b6c (E:=E0) xc (by rw [h.K];exact na g (by simp)) (by rw [h.K];exact na g' (by simp)) hi hf (by rw [h.prog,h.w,h.K,h.mg,h.base];exact g4) hr (h.gl c2) hm hb a5t ha n1 c3
   | _ :: _ :: _ :: _,g4,_=>exact g4.elim
noncomputable def d1v (Γ:Gm) (x:Str):Bool:=match Γ.gl.lookup x with
 | some (.err _ _)=>true
 | _=>false
noncomputable def d1h:RuE where
 is Γ lc e:=match e with
  | .Call (.Name x _) (a :: es) [] _=>F8 x&&glB lc.sc x&&(a :: es).all noStar&&!quiet lc&&d1v Γ x
  | _=>false
 run r Γ C lc e ρ:=match e with
  | .Call (.Name x _) (a :: es) [] _=>b0t r Γ lc x (a :: es) ρ
  | _=>bad
 ok {T k r Γ C lc X} e R TX h hi:=by
  split at hi
  ·simp only [Bool.and_eq_true,Bool.not_eq_true'] at hi
   exact PE.unf (a8l R TX h hi.1.1.1.1 hi.1.1.1.2 hi.1.1.2 hi.1.2)
  ·cases hi
 runK q Γ C lc e ρ _ k:=match e with
  | .Call (.Name x _) (a :: es) [] _=>c0z q Γ lc x (a :: es) ρ k
  | _=>bad
 eq {r q Γ C lc} e ρ _ k h:=by
  split
  ·exact b2x h _ _ ρ k
  ·first
   | rfl
   | (rename_i hn;split;exact (hn _ _ _ _ _ rfl).elim;rfl)
noncomputable def a3j (Γ:Gm) (lc:Lc) (x:Str) (a:Expr):Bool:=decide (x = "isinstance")&&(Γ.gl.lookup ("isinstance" : Str)).isNone&&glB lc.sc "isinstance" && noStar a
theorem a6z {Γ:Gm} {lc:Lc} {x:Str} {a:Expr} (h:a3j Γ lc x a=true):x = "isinstance"/\Γ.gl.lookup ("isinstance" : Str)=none/\glB lc.sc "isinstance" = true/\noStar a=true:=by
 simp only [a3j,Bool.and_eq_true,decide_eq_true_eq,Option.isNone_iff_eq_none] at h
 exact ⟨h.1.1.1,h.1.1.2,h.1.2,h.2⟩
noncomputable def btys:List (Str×String):=[("int","int"),("bool","bool"),("str","str"),("tuple","tuple"),("list","list"),("dict","dict"),("ValueError","ValueError")]
theorem b7a:∀ {x:Str} {t:String},btys.lookup x=some t->bootBuiltins x=some (.type t)/\x∈bnames/\(t∈tys\/t = "ValueError"):=by
 intro x t e
 have:∀ y∈btys,bootBuiltins y.1=some (.type y.2)/\y.1∈bnames/\(y.2∈tys\/y.2 = "ValueError"):=by
  intro y hy
  simp only [btys,List.mem_cons,List.not_mem_nil,or_false] at hy
  rcases hy with rfl | rfl | rfl | rfl | rfl | rfl | rfl <;> exact ⟨rfl,by decide,by decide⟩
 exact this _ (L2.mem_of_lookup e)
noncomputable def c85:RuE where
 is Γ lc e:=match e with
  | .Call (.Name x _) [a,.Name y _] [] _=>a3j Γ lc x a&&F8 y&&glB lc.sc y&&(Γ.gl.lookup y).isNone
  | _=>false
 run r Γ C lc e ρ:=match e with
  | .Call (.Name _ _) [a,.Name y _] [] _=>(match btys.lookup y with
   | some T=>bind (r.e lc a ρ) λd=>if T∈tys then X7 T (λ_=>false) d else b0d (λ_=>true) d
   | none=>bad)
  | _=>bad
 ok {T k r Γ C lc X} e R TX h hi:=by
  split at hi
  ·rename_i x p a y q pos
   simp only [Bool.and_eq_true,Option.isNone_iff_eq_none] at hi
   obtain ⟨⟨⟨c0,c1⟩,c2⟩,c3⟩:=hi
   obtain ⟨rfl,i1,i2,i3⟩:=a6z c0
   obtain ⟨n1,n2,n3⟩:=N1 c1
   have hm:=TX.none h (x:="isinstance") (by decide) i1
   show PE X _ (tD X.K T.cl (xOf X) λρ=>(match btys.lookup y with
    | some T=>bind (r.e lc a ρ) λd=>if T∈tys then X7 T (λ_=>false) d else b0d (λ_=>true) d
    | none=>bad))
   cases e2:btys.lookup y with
   | none=>exact k5
   | some t=>
    obtain ⟨b1,b2,b3⟩:=b7a e2
    by_cases ht:t∈tys
    ·have:=a8y (pos:=pos) (p:=p) (q:=q) (sx:=λ_=>false) (.inl ht) (λc xc=>by rw [h.K] at xc ⊢;exact TX.subT c xc t ht) (R.ex h a) (h.gl i2) hm (h.gl c2) (TX.none h b2 c3) b1 n3 n1 i3
     simp only [if_pos ht] at this ⊢
     exact this
    ·rcases b3 with b3 | b3
     ·exact absurd b3 ht
     ·subst b3
      have:=a8y (pos:=pos) (p:=p) (q:=q) (sx:=λ_=>true) (.inr rfl) (λc xc=>by rw [h.K] at xc ⊢;exact TX.subV c xc) (R.ex h a) (h.gl i2) hm (h.gl c2) (TX.none h b2 c3) b1 n3 n1 i3
      simp only [if_neg ht] at this ⊢
      exact this
  ·cases hi
 runK q Γ C lc e ρ _ k:=match e with
  | .Call (.Name _ _) [a,.Name y _] [] _=>(match btys.lookup y with
   | some T=>q.e lc a ρ λd=>if T∈tys then bind (X7 T (λ_=>false) d) k else bind (b0d (λ_=>true) d) k
   | none=>bad)
  | _=>bad
 eq {r q Γ C lc} e ρ _ k h:=by
  split
  ·rename_i x p a y q pos
   cases btys.lookup y with
   | none=>rfl
   | some T=>simp only [h.e,a8,w6]
  ·first
   | rfl
   | (rename_i hn;split;exact (hn _ _ _ _ _ _ rfl).elim;rfl)
noncomputable def a8m (x:Str) (ld:Bool) (Γ:Gm) (lc:Lc) (e:Expr):Bool:=match e with
 | .Call (.Name f _) (a :: es) [] _=>decide (f=x)&&(a :: es).all noStar&&(Γ.gl.lookup x).isNone&&glB lc.sc x&&!(ld&&quiet lc)
 | _=>false
noncomputable def b88 (g:List D->M D) (r:Ev) (lc:Lc) (e:Expr) (ρ:Env):M D:=match e with
 | .Call (.Name _ _) (a :: es) [] _=>bind (B1 r lc (a :: es) ρ) g
 | _=>bad
noncomputable def c0u (g:List D->M D) (q:EvK) (lc:Lc) (e:Expr) (ρ:Env) {α:Type} (k:D->M α):M α:=match e with
 | .Call (.Name _ _) (a :: es) [] _=>C8 q lc (a :: es) ρ λds=>bind (g ds) k
 | _=>bad
theorem b4o (g:List D->M D) {r:Ev} {q:EvK} {lc:Lc} (e:Expr) (ρ:Env) {α:Type} (k:D->M α) (h:EqK r q):c0u g q lc e ρ k=bind (b88 g r lc e ρ) k:=by
 unfold c0u b88
 split
 ·simp only [y0 h,a8]
 ·first
  | rfl
  | (rename_i hn;split;exact (hn _ _ _ _ _ rfl).elim;rfl)
theorem a5x {x:Str} {ld:Bool} {Γ:Gm} {lc:Lc} {e:Expr} (h:a8m x ld Γ lc e=true):∃ p a es pos,e=.Call (.Name x p) (a :: es) [] pos/\(a :: es).all noStar=true/\Γ.gl.lookup x=none/\glB lc.sc x=true/\(ld=true->quiet lc=false):=by
 unfold a8m at h
 split at h
 ·simp only [Bool.and_eq_true,decide_eq_true_eq,Option.isNone_iff_eq_none,Bool.not_eq_true'] at h
  obtain ⟨⟨⟨⟨rfl,h2⟩,h3⟩,h4⟩,h5⟩:=h
  refine ⟨_,_,_,_,rfl,h2,h3,h4,λz=>?_⟩
  rw [z] at h5
  simpa using h5
 ·cases h
noncomputable def rBf (x:Str) (id:String) (ld:Bool) (g:List D->M D) (hx:x∈bnames/\x ≠ "__name__"/\(x==("__debug__" : Str))=false) (hv:bootBuiltins x=some (.builtin id))
  (hc:∀ {T:Tx} {k:Nat} {lc:Lc} {X:Cx} {cl:Nat->Addr} {xe:Addr->Hp->Prop},CxOk T k lc X->(ld=true->X.calm=true)->o0 X (.builtin id) (rPs X.K cl xe g)):RuE where
 is:=a8m x ld
 run r _ _ lc e ρ:=b88 g r lc e ρ
 ok {T k r Γ C lc X} e R TX h hi:=by
  obtain ⟨p,a,es,pos,rfl,h1,h2,h3,h4⟩:=a5x hi
  exact b28 (hc h λz=>h.calm (h4 z)) (h.gl h3) (TX.none h hx.1 h2) hv (A1 R h h1) hx.2.1 hx.2.2 h1
 runK q _ _ lc e ρ _ k:=c0u g q lc e ρ k
 eq e ρ _ k h:=b4o g e ρ k h
noncomputable def rBt (x:Str) (id:String) (ld:Bool) (g:List D->M D) (hx:x∈bnames/\x ≠ "__name__"/\(x==("__debug__" : Str))=false) (hv:bootBuiltins x=some (.type id))
  (hc:∀ {T:Tx} {k:Nat} {lc:Lc} {X:Cx} {cl:Nat->Addr} {xe:Addr->Hp->Prop},CxOk T k lc X->(ld=true->X.calm=true)->o0 X (.type id) (rPs X.K cl xe g)):RuE where
 is:=a8m x ld
 run r _ _ lc e ρ:=b88 g r lc e ρ
 ok {T k r Γ C lc X} e R TX h hi:=by
  obtain ⟨p,a,es,pos,rfl,h1,h2,h3,h4⟩:=a5x hi
  exact b6m (hc h λz=>h.calm (h4 z)) (h.gl h3) (TX.none h hx.1 h2) hv (A1 R h h1) hx.2.1 hx.2.2 h1
 runK q _ _ lc e ρ _ k:=c0u g q lc e ρ k
 eq e ρ _ k h:=b4o g e ρ k h
noncomputable def d1b:RuE:=rBf "len" "len" false (one j8) (by decide) PySem.boot_len λ_ _=>c8e
noncomputable def c4c:RuE:=rBt "tuple" "tuple" false (one J7) (by decide) rfl λ_ _=>b6u
noncomputable def d1q:RuE:=rBf "any" "any" true (one b3p) (by decide) rfl λ_ hc=>c6u (hc rfl)
noncomputable def d18:RuE:=rBf "all" "all" true (one a3g) (by decide) rfl λ_ hc=>c7m (hc rfl)
noncomputable def d2c:RuE:=rBf "max" "max" true b4e (by decide) rfl λ_ hc=>c8w (hc rfl)
noncomputable def d2r:RuE:=rBt "int" "int" false (one a5a) (by decide) rfl λ_ _=>c6x
noncomputable def b9t:RuE where
 is Γ lc e:=match e with
  | .Call (.Name x _) [.Call (.Name y _) [a] [] _] [] _=>decide (x = "list")&&decide (y = "range")&&(Γ.gl.lookup ("list" : Str)).isNone&&(Γ.gl.lookup ("range" : Str)).isNone&&glB lc.sc "list" && glB lc.sc "range" && !quiet lc&&noStar a
  | _=>false
 run r _ _ lc e ρ:=match e with
  | .Call (.Name _ _) [.Call (.Name _ _) [a] [] _] [] _=>bind (r.e lc a ρ) Q2
  | _=>bad
 ok {T k r Γ C lc X} e R TX h hi:=by
  split at hi
  ·simp only [Bool.and_eq_true,decide_eq_true_eq,Option.isNone_iff_eq_none,Bool.not_eq_true'] at hi
   obtain ⟨⟨⟨⟨⟨⟨⟨rfl,rfl⟩,h1⟩,h2⟩,h3⟩,h4⟩,h5⟩,h6⟩:=hi
   exact a91 (h.calm h5) (h.gl h3) (TX.none h (by decide) h1) (h.gl h4) (TX.none h (by decide) h2) (R.ex h _) h6
  ·cases hi
 runK q _ _ lc e ρ _ k:=match e with
  | .Call (.Name _ _) [.Call (.Name _ _) [a] [] _] [] _=>q.e lc a ρ λd=>bind (Q2 d) k
  | _=>bad
 eq e ρ _ k h:=by
  split
  ·simp only [h.e,a8]
  ·first
   | rfl
   | (rename_i hn;split;exact (hn _ _ _ _ _ _ _ rfl).elim;rfl)
noncomputable def d0j (n:Nat) (Γ:Gm) (lc:Lc) (e:Expr):Bool:=match e with
 | .Call (.Name f _) es [] _=>decide (f = "range")&&decide (es.length=n)&&es.all noStar&&(Γ.gl.lookup ("range" : Str)).isNone&&glB lc.sc "range"
 | _=>false
noncomputable def rgE (n:Nat) (r:Ev) (lc:Lc) (e:Expr) (ρ:Env):M (Src×Nat):=match e with
 | .Call (.Name _ _) es [] _=>bind (B1 r lc es ρ) λds=>if ds.length=n then u5 ds else bad
 | _=>bad
noncomputable def rgK (n:Nat) (q:EvK) (lc:Lc) (e:Expr) (ρ:Env) {α:Type} (k:Src×Nat->M α):M α:=match e with
 | .Call (.Name _ _) es [] _=>C8 q lc es ρ λds=>if ds.length=n then bind (u5 ds) k else bad
 | _=>bad
theorem c7t (n:Nat) {r:Ev} {q:EvK} {lc:Lc} (e:Expr) (ρ:Env) {α:Type} (k:Src×Nat->M α) (h:EqK r q):rgK n q lc e ρ k=bind (rgE n r lc e ρ) k:=by
 unfold rgK rgE
 split
 ·simp only [y0 h,a8,w6,a44]
 ·first
  | rfl
  | (rename_i hn;split;exact (hn _ _ _ _ rfl).elim;rfl)
noncomputable def b9k:RuI where
 is Γ lc _ e:=d0j 1 Γ lc e
 run r _ _ lc e ρ:=rgE 1 r lc e ρ
 ok {T k r Γ C lc X} g e R TX h hi:=by
  unfold d0j at hi
  split at hi
  ·rename_i f p es pos
   simp only [Bool.and_eq_true,decide_eq_true_eq,Option.isNone_iff_eq_none] at hi
   obtain ⟨⟨⟨⟨rfl,h1⟩,h2⟩,h3⟩,h4⟩:=hi
   match es,h1,h2 with
   | [a],_,h2=>exact a7y (h.gl h4) (TX.none h (by decide) h3) (A1 R h h2) (by simpa using h2)
  ·cases hi
 runK q _ _ lc e ρ _ k:=rgK 1 q lc e ρ k
 eq e ρ _ k h:=c7t 1 e ρ k h
noncomputable def c8r:RuI where
 is Γ lc g e:=match g,e with
  | .Tuple _ _ _,.Call (.Name f _) [a] [] _=>decide (f = "enumerate")&&noStar a&&(Γ.gl.lookup ("enumerate" : Str)).isNone&&glB lc.sc "enumerate"
  | _,_=>false
 run r _ _ lc e ρ:=match e with
  | .Call (.Name _ _) [a] [] _=>bind (B1 r lc [a] ρ) λds=>(match ds with
   | [d]=>a8f d
   | _=>bad)
  | _=>bad
 ok {T k r Γ C lc X} g e R TX h hi:=by
  split at hi
  ·simp only [Bool.and_eq_true,decide_eq_true_eq,Option.isNone_iff_eq_none] at hi
   obtain ⟨⟨⟨rfl,h1⟩,h2⟩,h3⟩:=hi
   exact b6e (h.gl h3) (TX.none h (by decide) h2) (A1 R h (by simpa using h1)) h1
  ·cases hi
 runK q _ _ lc e ρ _ k:=match e with
  | .Call (.Name _ _) [a] [] _=>C8 q lc [a] ρ λds=>(match ds with
   | [d]=>bind (a8f d) k
   | _=>bad)
  | _=>bad
 eq e ρ _ k h:=by
  split
  ·simp only [y0 h,a8]
   congr;funext ds
   match ds with
   | []=>rfl
   | [_]=>rfl
   | _ :: _ :: _=>rfl
  ·first
   | rfl
   | (rename_i hn;split;exact (hn _ _ _ _ rfl).elim;rfl)
noncomputable def d2o:RuI where
 is _ _ _ _:=true
 run r _ _ lc e ρ:=bind (r.e lc e ρ) y9
 ok g e R TX h hi:=b66 (R.ex h e)
 runK q _ _ lc e ρ _ k:=q.e lc e ρ λd=>bind (y9 d) k
 eq e ρ _ k h:=by simp only [h.e,a8]
noncomputable def a7l (scope sc:Scope):Scope:={ scope with names:=scope.names.map λ(n,k)=>if (k==.free&&sc.kind==.function&&sc.names.lookup n==some .cell) then (n,NameKind.cell) else (n,k) }
theorem b0h (scope:Scope) (env:PySem.Env):relabel scope env=a7l scope env.scope:=rfl
noncomputable def A7 (scope:Scope):List Str:=(scope.names.filter λy=>y.2==.free).map (·.1)
noncomputable def E7 (lc:Lc) (scope:Scope) (xs:List Str):Bool:=
 decide (scope.kind=.function)&&scope.names.all (λy=>decide (y.2≠.cell))&&scope.names.all (λy=>decide (y.2=.local->scope.names.lookup y.1=some .local))
  && scope.names.all (λy=>decide (y.2=.free->scope.names.lookup y.1=some .free/\(lc.sc.names.lookup y.1=some .cell\/lc.sc.names.lookup y.1=some .free)))
  && (A7 scope).all (λz=>decide (scope.names.lookup z=some .free))&&decide ((xs++A7 scope).Nodup)&&xs.all (λx=>decide (scope.names.lookup x=some .local))&&!quiet lc
theorem a5n {α β:Type} {f:α->Option β}:∀ {xs:List α} {ys:List β},k9 f xs=some ys->ys.length=xs.length
 | [],_,e=>by cases e;rfl
 | x :: xs,ys,e=>by
  simp only [k9] at e
  cases e1:f x with
  | none=>rw [e1] at e;cases e
  | some y=>
   cases e2:k9 f xs with
   | none=>rw [e1,e2] at e;cases e
   | some ys'=>rw [e1,e2] at e;cases e;simp [a5n e2]
theorem a5s {α β:Type} {f:α->Option β}:∀ {xs:List α} {ys:List β} {j:Nat} {y:β},k9 f xs=some ys->ys[j]?=some y->∃ x,xs[j]?=some x/\f x=some y
 | [],_,_,_,e,h=>by cases e;simp at h
 | x :: xs,ys,j,y,e,h=>by
  simp only [k9] at e
  cases e1:f x with
  | none=>rw [e1] at e;cases e
  | some z=>
   cases e2:k9 f xs with
   | none=>rw [e1,e2] at e;cases e
   | some ys'=>
    rw [e1,e2] at e;cases e
    cases j with
    | zero=>simp at h;subst h;exact ⟨x,rfl,e1⟩
    | succ j=>simpa using a5s (j:=j) (y:=y) e2 (by simpa using h)
noncomputable def v7 (lc:Lc) (scope:Scope) (xs:List Str):Lc:=⟨xs++A7 scope,a7l scope lc.sc,false,[]⟩
noncomputable def testsE (r:Ev) (lc:Lc) (ifs:List Expr) (ρ:Env):M Bool:=match ifs with
 | []=>ret true
 | [c]=>r.t lc c ρ
 | _=>bad
noncomputable def testsK (q:EvK) (lc:Lc) (ifs:List Expr) (ρ:Env):M Bool:=match ifs with
 | []=>ret true
 | [c]=>q.t lc c ρ ret
 | _=>bad
theorem tests_eq {r:Ev} {q:EvK} {lc:Lc} (h:EqK r q) (ifs:List Expr) (ρ:Env):testsK q lc ifs ρ=testsE r lc ifs ρ:=by
 match ifs with
 | []=>rfl
 | [c]=>simp only [testsK,testsE,h.t,Y5]
 | _ :: _ :: _=>rfl
section
variable {T:Tx} {k:Nat} {r:Ev} {q:EvK} {Γ:Gm} {C:Cf} {lc:Lc} {X:Cx}
theorem tests_ok (R:EvOk T k r) (h:CxOk T k lc X) {ifs:List Expr}:PTL X ifs (tBo X.K T.cl (xOf X) (testsE r lc ifs)):=by
 match ifs with
 | []=>exact b1k
 | [c]=>exact b6w (R.tx h c)
 | _ :: _ :: _=>exact λ_ _ _ _ _ _ ⟨_,_,_,_,_,p⟩=>p.elim
theorem U6 (h:CxOk T k lc X) {scope:Scope} {xs:List Str} {caps:List Nat} (hc:E7 lc scope xs=true) (hm:k9 (n4 lc.N) (A7 scope)=some caps):CompText X.N X.env (xs++A7 scope) xs.length caps scope/\(xs++A7 scope).Nodup/\(∀ x∈xs,scope.names.lookup x=some .local)/\quiet lc=false/\scope.kind=.function:=by
 simp only [E7,Bool.and_eq_true,decide_eq_true_eq,List.all_eq_true,Bool.not_eq_true'] at hc
 obtain ⟨⟨⟨⟨⟨⟨⟨h1,h2⟩,h3⟩,h4⟩,h5⟩,h6⟩,h7⟩,h8⟩:=hc
 refine ⟨⟨h1,h2,h3,λy hy hk=>?_,λj i e=>?_,?_⟩,h6,h7,h8,h1⟩
 ·rw [h.sc];exact h4 y hy hk
 ·obtain ⟨z,e1,e2⟩:=a5s hm e
  refine ⟨z,by rw [h.N];exact B9 e2,?_,h5 z (List.mem_of_getElem? e1)⟩
  rw [List.getElem?_append_right (by omega)]
  simpa using e1
 ·simp [a5n hm,Nat.add_comm]
theorem D3 (h:CxOk T k lc X) (hq:quiet lc=false) {scope:Scope} {xs:List Str} (hk:scope.kind=.function) (hn:(xs++A7 scope).Nodup) (pins:List (Addr×Obj)) (C:Addr) (fp:List Addr) (s:Shared) (H:Hp):CxOk T k (v7 lc scope xs) (c8 X pins (xs++A7 scope) scope C fp s H):=
 ⟨h.prog,h.w,h.K,h.mg,h.base,rfl,hn,by show relabel scope X.env=a7l scope lc.sc;rw [b0h,h.sc],λ_=>h.calm hq,(by have:=h.room;rw [hq] at this;exact this),PassesOwn.never,rfl,hk,λz=>Bool.noConfusion z⟩
end
noncomputable def i4 (src:Src) (t:D->M Bool) (f:D->M D):Nat->Nat->List D->M (List D)
 | 0,_,_=>bad
 | m+1,i,es=>λS=>match src i S with
  | none=>.bad
  | some none=>.ok es S
  | some (some d)=>bind (t d) (λb=>if b=true then bind (f d) (λy=>if es.length<sizeLine then i4 src t f m (i+1) (es++[y]) else bad) else i4 src t f m (i+1) es) S
theorem Z4 (src:Src) (t:Env->M Bool) (f:Env->M D) (mk:D->Env):∀ m i es,A8 src t f mk m i es=i4 src (λd=>t (mk d)) (λd=>f (mk d)) m i es
 | 0,_,_=>rfl
 | m+1,i,es=>by
  funext S
  simp only [A8,i4,Z4 src t f mk m]
  all_goals (cases src i S with
  | none=>rfl
  | some o=>cases o <;> rfl)
noncomputable def J6 (r:Ev) (lc:Lc) (elt:Expr) (x:Str) (px:Pos) (iter:Expr) (ifs:List Expr) (scope:Scope) (ρ:Env):M (List D):=match k9 (n4 lc.N) (A7 scope) with
 | some caps=>nx (a83 caps (r.i lc (.Name x px) iter) (testsE r (v7 lc scope [x]) ifs) (r.e (v7 lc scope [x]) elt) ρ)
 | none=>bad
noncomputable def a2v (q:EvK) (lc:Lc) (elt:Expr) (x:Str) (px:Pos) (iter:Expr) (ifs:List Expr) (scope:Scope) (ρ:Env) {α:Type} (k:List D->M α):M α:=match k9 (n4 lc.N) (A7 scope) with
 | some caps=>bind (nx (q.i lc (.Name x px) iter ρ λsm=>i4 sm.1 (λd=>testsK q (v7 lc scope [x]) ifs (some d :: y7 caps ρ)) (λd=>q.e (v7 lc scope [x]) elt (some d :: y7 caps ρ) ret) sm.2 0 [])) k
 | none=>bad
theorem a4q {r:Ev} {q:EvK} {lc:Lc} (h:EqK r q) (elt:Expr) (x:Str) (px:Pos) (iter:Expr) (ifs:List Expr) (scope:Scope) (ρ:Env) {α:Type} (k:List D->M α):a2v q lc elt x px iter ifs scope ρ k=bind (J6 r lc elt x px iter ifs scope ρ) k:=by
 unfold a2v J6
 cases k9 (n4 lc.N) (A7 scope) with
 | none=>rfl
 | some caps=>simp only [h.i,h.e,Y5,tests_eq h,a83,Z4]
theorem b1l {T:Tx} {k:Nat} {r:Ev} {lc:Lc} {X:Cx} (R:EvOk T k r) (h:CxOk T k lc X) {elt:Expr} {x:Str} {px pos:Pos} {iter:Expr} {ifs:List Expr} {scope:Scope} (hc:E7 lc scope [x]=true) (hn:z0 iter=true) :
  PE X (.ListComp elt [⟨.Name x px,iter,ifs,0⟩] scope pos) (tD X.K T.cl (xOf X) λρ=>bind (J6 r lc elt x px iter ifs scope ρ) λds=>ret (.lst ds)):=by
 unfold J6
 cases hm:k9 (n4 lc.N) (A7 scope) with
 | none=>exact k5
 | some caps=>
  obtain ⟨t1,t2,t3,t4,t5⟩:=U6 h hc hm
  refine a77 (a4k t1 (h.calm t4) t2 rfl (t3 x (by simp)) (PI.x0 (R.ix h _ _)) (λpins C fp s H=>?_) (λpins C fp s H=>?_) hn)
  ·exact PTL.x0 (tests_ok R (D3 h t4 t5 t2 pins C fp s H))
  ·exact PE.x0 (R.ex (D3 h t4 t5 t2 pins C fp s H) elt)
noncomputable def c37:RuE where
 is _ lc e:=match e with
  | .ListComp _ [⟨.Name x _,iter,_,0⟩] scope _=>E7 lc scope [x]&&z0 iter
  | _=>false
 run r _ _ lc e ρ:=match e with
  | .ListComp elt [⟨.Name x px,iter,ifs,0⟩] scope _=>bind (J6 r lc elt x px iter ifs scope ρ) λds=>ret (.lst ds)
  | _=>bad
 ok e R TX h hi:=by
  split at hi
  ·rw [Bool.and_eq_true] at hi
   exact b1l R h hi.1 hi.2
  ·cases hi
 runK q _ _ lc e ρ _ k:=match e with
  | .ListComp elt [⟨.Name x px,iter,ifs,0⟩] scope _=>a2v q lc elt x px iter ifs scope ρ λds=>k (.lst ds)
  | _=>bad
 eq e ρ _ k h:=by
  split
  ·simp only [a4q h,a8,j9]
  ·first
   | rfl
   | (rename_i hn;split;exact (hn _ _ _ _ _ _ _ rfl).elim;rfl)
noncomputable def W0 (src:Src) (t:D->M Bool) (fi1:D->M (Src×Nat)) (t1:D->D->M Bool) (f:D->D->M D):Nat->Nat->List D->M (List D)
 | 0,_,_=>bad
 | m+1,i,es=>λS=>match src i S with
  | none=>.bad
  | some none=>.ok es S
  | some (some d)=>bind (t d) (λb=>if b=true then bind (fi1 d) (λsm=>bind (i4 sm.1 (t1 d) (f d) sm.2 0 es) (λes'=>W0 src t fi1 t1 f m (i+1) es')) else W0 src t fi1 t1 f m (i+1) es) S
theorem a2o (src:Src) (t:Env->M Bool) (fi1:Env->M (Src×Nat)) (t1:Env->M Bool) (f:Env->M D) (cap:Env):∀ m i es,A5 src t fi1 t1 f cap m i es=W0 src (λd=>t (some d :: none :: cap)) (λd=>fi1 (some d :: none :: cap)) (λd d2=>t1 (some d :: some d2 :: cap)) (λd d2=>f (some d :: some d2 :: cap)) m i es
 | 0,_,_=>rfl
 | m+1,i,es=>by
  funext S
  simp only [A5,W0,a2o src t fi1 t1 f cap m,Z4]
  all_goals (cases src i S with
  | none=>rfl
  | some o=>cases o <;> rfl)
noncomputable def a0e (r:Ev) (lc:Lc) (elt:Expr) (x y:Str) (px py:Pos) (iter iter2:Expr) (ifs ifs2:List Expr) (scope:Scope) (ρ:Env):M (List D):=match k9 (n4 lc.N) (A7 scope) with
 | some caps=>nx (a3y caps (r.i lc (.Name x px) iter) (testsE r (v7 lc scope [x,y]) ifs) (r.i (v7 lc scope [x,y]) (.Name y py) iter2) (testsE r (v7 lc scope [x,y]) ifs2) (r.e (v7 lc scope [x,y]) elt) ρ)
 | none=>bad
noncomputable def a65 (q:EvK) (lc:Lc) (elt:Expr) (x y:Str) (px py:Pos) (iter iter2:Expr) (ifs ifs2:List Expr) (scope:Scope) (ρ:Env) {α:Type} (k:List D->M α):M α:=match k9 (n4 lc.N) (A7 scope) with
 | some caps=>bind (nx (q.i lc (.Name x px) iter ρ λsm=>W0 sm.1 (λd=>testsK q (v7 lc scope [x,y]) ifs (some d :: none :: y7 caps ρ)) (λd=>q.i (v7 lc scope [x,y]) (.Name y py) iter2 (some d :: none :: y7 caps ρ) ret) (λd d2=>testsK q (v7 lc scope [x,y]) ifs2 (some d :: some d2 :: y7 caps ρ)) (λd d2=>q.e (v7 lc scope [x,y]) elt (some d :: some d2 :: y7 caps ρ) ret) sm.2 0 [])) k
 | none=>bad
theorem b30 {r:Ev} {q:EvK} {lc:Lc} (h:EqK r q) (elt:Expr) (x y:Str) (px py:Pos) (iter iter2:Expr) (ifs ifs2:List Expr) (scope:Scope) (ρ:Env) {α:Type} (k:List D->M α):a65 q lc elt x y px py iter iter2 ifs ifs2 scope ρ k=bind (a0e r lc elt x y px py iter iter2 ifs ifs2 scope ρ) k:=by
 unfold a65 a0e
 cases k9 (n4 lc.N) (A7 scope) with
 | none=>rfl
 | some caps=>simp only [h.i,h.e,Y5,tests_eq h,a3y,a2o]
theorem b2f {T:Tx} {k:Nat} {r:Ev} {lc:Lc} {X:Cx} (R:EvOk T k r) (h:CxOk T k lc X) {elt:Expr} {x y:Str} {px py pos:Pos} {iter iter2:Expr} {ifs ifs2:List Expr} {scope:Scope} (hc:E7 lc scope [x,y]=true) (hn:z0 iter=true) (hn2:z0 iter2=true) :
  PE X (.ListComp elt [⟨.Name x px,iter,ifs,0⟩,⟨.Name y py,iter2,ifs2,0⟩] scope pos) (tD X.K T.cl (xOf X) λρ=>bind (a0e r lc elt x y px py iter iter2 ifs ifs2 scope ρ) λds=>ret (.lst ds)):=by
 unfold a0e
 cases hm:k9 (n4 lc.N) (A7 scope) with
 | none=>exact k5
 | some caps=>
  obtain ⟨t1,t2,t3,t4,t5⟩:=U6 h hc hm
  refine a77 (a93 t1 (h.calm t4) t2 rfl rfl (t3 x (by simp)) (t3 y (by simp)) (PI.x0 (R.ix h _ _)) (λpins C fp s H=>?_) (λpins C fp s H=>?_) (λpins C fp s H=>?_) (λpins C fp s H=>?_) hn hn2)
  ·exact PTL.x0 (tests_ok R (D3 h t4 t5 t2 pins C fp s H))
  ·exact PI.x0 (R.ix (D3 h t4 t5 t2 pins C fp s H) _ _)
  ·exact PTL.x0 (tests_ok R (D3 h t4 t5 t2 pins C fp s H))
  ·exact PE.x0 (R.ex (D3 h t4 t5 t2 pins C fp s H) elt)
noncomputable def c2y:RuE where
 is _ lc e:=match e with
  | .ListComp _ [⟨.Name x _,iter,_,0⟩,⟨.Name y _,iter2,_,0⟩] scope _=>E7 lc scope [x,y]&&z0 iter&&z0 iter2
  | _=>false
 run r _ _ lc e ρ:=match e with
  | .ListComp elt [⟨.Name x px,iter,ifs,0⟩,⟨.Name y py,iter2,ifs2,0⟩] scope _=>bind (a0e r lc elt x y px py iter iter2 ifs ifs2 scope ρ) λds=>ret (.lst ds)
  | _=>bad
 ok e R TX h hi:=by
  split at hi
  ·rw [Bool.and_eq_true,Bool.and_eq_true] at hi
   exact b2f R h hi.1.1 hi.1.2 hi.2
  ·cases hi
 runK q _ _ lc e ρ _ k:=match e with
  | .ListComp elt [⟨.Name x px,iter,ifs,0⟩,⟨.Name y py,iter2,ifs2,0⟩] scope _=>a65 q lc elt x y px py iter iter2 ifs ifs2 scope ρ λds=>k (.lst ds)
  | _=>bad
 eq e ρ _ k h:=by
  split
  ·simp only [b30 h,a8,j9]
  ·first
   | rfl
   | (rename_i hn;split;exact (hn _ _ _ _ _ _ _ _ _ _ _ rfl).elim;rfl)
noncomputable def c2w (m:Str) (e:Expr):Bool:=match e with
 | .Call (.Attribute o n apos) (a :: es) [] cpos=>decide (n=m)&&G0 o&&(a :: es).all noStar&&E9 (a :: es)&&(apos.endLine==cpos.line)
 | _=>false
theorem b91 {m:Str} {e:Expr} (h:c2w m e=true):∃ o apos a es cpos,e=.Call (.Attribute o m apos) (a :: es) [] cpos/\G0 o=true/\(a :: es).all noStar=true/\E9 (a :: es)=true/\(apos.endLine==cpos.line)=true:=by
 unfold c2w at h
 split at h
 ·simp only [Bool.and_eq_true,decide_eq_true_eq] at h
  obtain ⟨⟨⟨⟨rfl,h1⟩,h2⟩,h3⟩,h4⟩:=h
  exact ⟨_,_,_,_,_,rfl,h1,h2,h3,h4⟩
 ·cases h
noncomputable def mtE {α:Type} (g:D->M α) (op:D->List D->M D) (r:Ev) (lc:Lc) (e:Expr) (ρ:Env):M D:=match e with
 | .Call (.Attribute o _ _) (a :: es) [] _=>bind (r.e lc o ρ) λx=>bind (g x) λ_=>bind (B1 r lc (a :: es) ρ) λds=>op x ds
 | _=>bad
noncomputable def mtK {α:Type} (g:D->M α) (op:D->List D->M D) (q:EvK) (lc:Lc) (e:Expr) (ρ:Env) {β:Type} (k:D->M β):M β:=match e with
 | .Call (.Attribute o _ _) (a :: es) [] _=>q.e lc o ρ λx=>bind (g x) λ_=>C8 q lc (a :: es) ρ λds=>bind (op x ds) k
 | _=>bad
theorem c6l {α:Type} (g:D->M α) (op:D->List D->M D) {r:Ev} {q:EvK} {lc:Lc} (e:Expr) (ρ:Env) {β:Type} (k:D->M β) (h:EqK r q):mtK g op q lc e ρ k=bind (mtE g op r lc e ρ) k:=by
 unfold mtK mtE
 split
 ·simp only [h.e,y0 h,a8]
 ·first
  | rfl
  | (rename_i hn;split;exact (hn _ _ _ _ _ _ rfl).elim;rfl)
noncomputable def rMt {α:Type} (m:Str) (g:D->M α) (op:D->List D->M D)
  (ok:∀ {T:Tx} {k:Nat} {lc:Lc} {X:Cx} {xe:Addr->Hp->Prop} {o a:Expr} {es:List Expr} {apos cpos:Pos} {f:Env->M D} {fs:Env->M (List D)},CxOk T k lc X->PE X o (tD X.K T.cl xe f)->PA X (a :: es) (tDs X.K T.cl xe fs)->G0 o=true->(a :: es).all noStar=true->E9 (a :: es)=true->(apos.endLine==cpos.line)=true->PE X (.Call (.Attribute o m apos) (a :: es) [] cpos) (tD X.K T.cl xe λρ=>bind (f ρ) λx=>bind (g x) λ_=>bind (fs ρ) λds=>op x ds)):RuE where
 is _ _ e:=c2w m e
 run r _ _ lc e ρ:=mtE g op r lc e ρ
 ok {T k r Γ C lc X} e R TX h hi:=by
  obtain ⟨o,apos,a,es,cpos,rfl,c1,c2,c3,c4⟩:=b91 hi
  exact ok h (R.ex h o) (A1 R h c2) c1 c2 c3 c4
 runK q _ _ lc e ρ _ k:=mtK g op q lc e ρ k
 eq e ρ _ k h:=c6l g op e ρ k h
noncomputable def d08:RuE:=rMt "get" dctOf getDD λh ho ha c1 c2 c3 c4=>a28 PySem.F.plainAttrs_dict PySem.F.slot_dict_get PySem.F.type_dict_get (b6o h.u1) a69 b31 ho ha c1 c2 c3 c4
noncomputable def rCount:RuE:=rMt "count" lstOf countD λ_ ho ha c1 c2 c3 c4=>a28 PySem.F.plainAttrs_list PySem.F.slot_list_count PySem.F.type_list_count b3h a61 a7j ho ha c1 c2 c3 c4
noncomputable def rAppend:RuE:=rMt "append" lstOf a1i λ_ ho ha c1 c2 c3 c4=>b06 ho ha c1 c2 c3 c4
end L3
end
section
set_option maxHeartbeats 1000000
namespace L3
open PySem PySem.Spec PyProof.Rows L2
noncomputable def c87:RuS where
 is _ _ e:=match e with
  | .Expr e _=>C5 e
  | _=>false
 run r _ _ lc e ρ:=match e with
  | .Expr e _=>bind (r.e lc e ρ) λ_=>ret (.nx ρ)
  | _=>bad
 ok e R TX h hf hi:=by
  cases e with
  | Expr e p=>exact b2b (R.ex h _) hi
  | _=>exact O7
 runK q _ _ lc e ρ _ k:=match e with
  | .Expr e _=>q.e lc e ρ λ_=>k (.nx ρ)
  | _=>bad
 eq e ρ _ k h:=by
  cases e with
  | Expr e p=>simp only [h.e,a8,j9]
  | _=>rfl
noncomputable def d0x:RuS where
 is _ _ e:=match e with
  | .Return (some _) _=>true
  | _=>false
 run r _ _ lc e ρ:=match e with
  | .Return (some e) _=>bind (r.e lc e ρ) λd=>ret (.rt d)
  | _=>bad
 ok e R TX h hf hi:=by
  split at hi
  ·exact b8w (R.ex h _)
  ·cases hi
 runK q _ _ lc e ρ _ k:=match e with
  | .Return (some e) _=>q.e lc e ρ λd=>k (.rt d)
  | _=>bad
 eq e ρ _ k h:=by
  split
  ·simp only [h.e,a8,j9]
  ·first
   | rfl
   | (rename_i hn;split;exact (hn _ _ rfl).elim;rfl)
noncomputable def sIf:RuS where
 is _ _ e:=match e with
  | .If _ _ _ _=>true
  | _=>false
 run r _ _ lc e ρ:=match e with
  | .If c a b _=>bind (r.t lc c ρ) λq=>if q=true then a1g r lc a ρ else a1g r lc b ρ
  | _=>bad
 ok e R TX h hf hi:=by
  cases e with
  | If c a b p=>exact c5o (R.tx h _) (W2 R h hf) (W2 R h hf)
  | _=>exact O7
 runK q _ _ lc e ρ _ k:=match e with
  | .If c a b _=>q.t lc c ρ λz=>if z=true then k4 q lc a ρ k else k4 q lc b ρ k
  | _=>bad
 eq e ρ _ k h:=by
  cases e with
  | If c a b p=>simp only [h.t,a34 h,a8,w6]
  | _=>rfl
noncomputable def b1a (lc:Lc) (x:Str):Bool:=(n4 lc.N x).isSome&&a5r lc.sc x
noncomputable def a1a (lc:Lc) (x:Str) (ρ:Env) (d:D):M Fl:=match n4 lc.N x with
 | some i=>ret (.nx (ρ.set i (some d)))
 | none=>bad
noncomputable def B4 (lc:Lc) (x:Str) (ρ:Env) (d:D) {α:Type} (k:Fl->M α):M α:=match n4 lc.N x with
 | some i=>k (.nx (ρ.set i (some d)))
 | none=>bad
theorem a6s (lc:Lc) (x:Str) (ρ:Env) (d:D) {α:Type} (k:Fl->M α):bind (a1a lc x ρ d) k=B4 lc x ρ d k:=by
 unfold a1a B4
 cases n4 lc.N x <;> rfl
theorem b5n {T:Tx} {k:Nat} {lc:Lc} {X:Cx} {xe:Addr->Hp->Prop} {x:Str} {p pos:Pos} {e:Expr} {f:Env->M D} (h:CxOk T k lc X) (hf:lc.fr=true) (hn:b1a lc x=true) (he:PE X e (tD X.K T.cl xe f)) (hc:C5 e=true):PS X (.Assign [.Name x p] e pos) (sD X.K T.cl xe λρ=>bind (f ρ) (a1a lc x ρ)):=by
 rw [b1a,Bool.and_eq_true,Option.isSome_iff_exists] at hn
 obtain ⟨⟨i,hi⟩,hl⟩:=hn
 have:=b7b (pos:=pos) (pos':=p) h.nd' (by rw [h.N];exact B9 hi) (by rw [h.sc];exact R3 hl) he hc (.inl (h.fn1 hf))
 have e:a1a lc x=λρ d=>ret (.nx (ρ.set i (some d))):=by funext ρ d;simp only [a1a,hi]
 rw [e];exact this
noncomputable def d11:RuS where
 is _ lc e:=match e with
  | .Assign [.Name x _] e _=>b1a lc x&&C5 e
  | _=>false
 run r _ _ lc e ρ:=match e with
  | .Assign [.Name x _] e _=>bind (r.e lc e ρ) (a1a lc x ρ)
  | _=>bad
 ok e R TX h hf hi:=by
  split at hi
  ·rw [Bool.and_eq_true] at hi
   exact b5n h hf hi.1 (R.ex h _) hi.2
  ·cases hi
 runK q _ _ lc e ρ _ k:=match e with
  | .Assign [.Name x _] e _=>q.e lc e ρ λd=>B4 lc x ρ d k
  | _=>bad
 eq e ρ _ k h:=by
  split
  ·simp only [h.e,a8,a6s]
  ·first
   | rfl
   | (rename_i hn;split;exact (hn _ _ _ _ rfl).elim;rfl)
noncomputable def c78:RuS where
 is _ lc e:=match e with
  | .Assign [.Name x _] (.List es _) _=>b1a lc x&&decide (x∈lc.mu)&&es.all noStar
  | _=>false
 run r _ _ lc e ρ:=match e with
  | .Assign [.Name x _] (.List es _) _=>bind (bind (B1 r lc es ρ) b2e) (a1a lc x ρ)
  | _=>bad
 ok e R TX h hf hi:=by
  split at hi
  ·rw [Bool.and_eq_true,Bool.and_eq_true] at hi
   exact b5n h hf hi.1.1 (b95 (A1 R h hi.2)) rfl
  ·cases hi
 runK q _ _ lc e ρ _ k:=match e with
  | .Assign [.Name x _] (.List es _) _=>C8 q lc es ρ λds=>bind (b2e ds) λd=>B4 lc x ρ d k
  | _=>bad
 eq e ρ _ k h:=by
  split
  ·simp only [y0 h,a8,a6s]
  ·first
   | rfl
   | (rename_i hn;split;exact (hn _ _ _ _ _ rfl).elim;rfl)
noncomputable def swB (lc:Lc) (value:Expr) (scope:Scope) (t:Str) (pos:Pos):Bool:=lc.sc.names.lookup t==some .local&&pos.line==value.pos.line&&!(scope.names.any λ(n,k)=>n==t&&(k==.local||k==.cell))
theorem c8i {T:Tx} {k:Nat} {lc:Lc} {X:Cx} (h:CxOk T k lc X) (elt:Expr) (gens:List Comprehension) (scope:Scope) (x:Str) (pos' pos pos2:Pos):swapsWith (.ListComp elt gens scope pos2) (some (.Name x pos')) pos.line X.env=pure (swB lc (.ListComp elt gens scope pos2) scope x pos'):=by
 show pure (X.env.blockKind==.function&&X.env.kindOf x==some .local&&pos'.line==(Expr.ListComp elt gens scope pos2).pos.line&&!(scope.names.any λ(n,k)=>n==x&&(k==.local||k==.cell)))=_
 have hb:X.env.blockKind=.function:=by unfold PySem.Env.blockKind;rw [h.sc,h.kd];rfl
 have hk:X.env.kindOf x=lc.sc.names.lookup x:=by unfold PySem.Env.kindOf;rw [h.sc]
 rw [hb,hk]
 rfl
theorem b5z {T:Tx} {k i:Nat} {lc:Lc} {X:Cx} {x:Str} {p pos:Pos} {e:Expr} {fs:Env->M (List D)} {xe:Addr->Hp->Prop} (hi:n4 lc.N x=some i) (h:PS X (.Assign [.Name x p] e pos) (b7u (b4b X.K T.cl x0 fs) (a9g i))):PS X (.Assign [.Name x p] e pos) (sD X.K T.cl xe λρ=>bind (bind (nx (fs ρ)) λds=>ret (.lst ds)) (a1a lc x ρ)):=PS.imp h λD σ H ⟨μ,S,ρ,eo,rp,p⟩=>
 ⟨μ,S,ρ,eo,rp,p.bind.bind.nx.imp λds S1 μ1 H1 l1 r1 p1 acc ys hl rds=>by
  have p2:=p1.ret μ1 H1 (Lat.refl _ _) r1
  simp only [a1a,hi] at p2
  exact p2.ret μ1 H1 (Lat.refl _ _) r1 _ ((eo.later l1).set (.lst hl rds) i)⟩
noncomputable def b5c:RuS where
 is _ lc e:=match e with
  | .Assign [.Name x _] (.ListComp _ [⟨.Name y _,iter,_,0⟩] scope _) _=>b1a lc x&&E7 lc scope [y]&&z0 iter
  | _=>false
 run r _ _ lc e ρ:=match e with
  | .Assign [.Name x _] (.ListComp elt [⟨.Name y py,iter,ifs,0⟩] scope _) _=>bind (bind (J6 r lc elt y py iter ifs scope ρ) λds=>ret (.lst ds)) (a1a lc x ρ)
  | _=>bad
 ok {T k r Γ C lc X} e R TX h hf hi:=by
  split at hi
  ·rename_i x p elt y py iter ifs scope pos2 pos
   rw [Bool.and_eq_true,Bool.and_eq_true] at hi
   obtain ⟨⟨h1,hc⟩,hn⟩:=hi
   have h1':=h1
   rw [b1a,Bool.and_eq_true,Option.isSome_iff_exists] at h1'
   obtain ⟨⟨i,hi⟩,hl⟩:=h1'
   have hi':X.N[i]?=some x:=by rw [h.N];exact B9 hi
   have hl':L2.Loc X.env.scope x:=by rw [h.sc];exact R3 hl
   have hff:X.fn x=true\/X.env.scope.names.lookup x=some .local:=.inl (h.fn1 hf)
   have sw:=c8i h elt [⟨.Name y py,iter,ifs,0⟩] scope x p pos pos2
   show PS X _ (sD X.K T.cl (xOf X) λρ=>bind (bind (J6 r lc elt y py iter ifs scope ρ) λds=>ret (.lst ds)) (a1a lc x ρ))
   unfold J6
   cases hm:k9 (n4 lc.N) (A7 scope) with
   | none=>exact PS.imp b2j λD σ H ⟨μ,S,ρ,eo,rp,p⟩=>p.bind.elim
   | some caps=>
    obtain ⟨t1,t2,t3,t4,t5⟩:=U6 h hc hm
    have e1:=λpins C fp s H=>PTL.x0 (tests_ok (ifs:=ifs) R (D3 h t4 t5 t2 pins C fp s H))
    have e2:=λpins C fp s H=>PE.x0 (R.ex (D3 h t4 t5 t2 pins C fp s H) elt)
    refine b5z (k:=k) hi ?_
    cases hb:swB lc (.ListComp elt [⟨.Name y py,iter,ifs,0⟩] scope pos2) scope x p with
    | false=>
     rw [hb] at sw
     exact b6a h.nd' hi' hl' (a4k t1 (h.calm t4) t2 rfl (t3 y (by simp)) (PI.x0 (R.ix h _ _)) e1 e2 hn) sw hff
    | true=>
     rw [hb] at sw
     exact PS.imp (a7e sw h.nd' hi' hl' hff t1 (h.calm t4) t2 rfl (t3 y (by simp)) (PI.x0 (R.ix h _ _)) e1 e2 (E5 hn)) λD σ H ⟨μ,S,ρ,eo,rp,p⟩=>a07 eo rp p
  ·cases hi
 runK q _ _ lc e ρ _ k:=match e with
  | .Assign [.Name x _] (.ListComp elt [⟨.Name y py,iter,ifs,0⟩] scope _) _=>a2v q lc elt y py iter ifs scope ρ λds=>B4 lc x ρ (.lst ds) k
  | _=>bad
 eq e ρ _ k h:=by
  split
  ·simp only [a4q h,a8,j9,a6s]
  ·first
   | rfl
   | (rename_i hn;split;exact (hn _ _ _ _ _ _ _ _ _ _ rfl).elim;rfl)
noncomputable def q9 (lc:Lc):List Expr->Option (List Nat)
 | []=>some []
 | .Name x _ :: ts=>if a5r lc.sc x=true then (match n4 lc.N x,q9 lc ts with
   | some i,some is=>some (i :: is)
   | _,_=>none) else none
 | _=>none
theorem Q7 {T:Tx} {k:Nat} {lc:Lc} {X:Cx} (h:CxOk T k lc X) (hf:lc.fr=true):∀ {ts:List Expr} {is:List Nat},q9 lc ts=some is->M3 X ts is
 | [],is,e=>by cases e;exact True.intro
 | t :: ts,is,e=>by
  cases t with
  | Name x p=>
   simp only [q9] at e
   by_cases hl:a5r lc.sc x=true
   ·simp only [if_pos hl] at e
    cases e1:n4 lc.N x with
    | none=>rw [e1] at e;cases e
    | some i=>
     cases e2:q9 lc ts with
     | none=>rw [e1,e2] at e;cases e
     | some is'=>
      rw [e1,e2] at e;cases e
      exact ⟨by rw [h.N];exact B9 e1,by rw [h.sc];exact R3 hl,.inl (h.fn1 hf),Q7 h hf e2⟩
   ·simp only [if_neg hl] at e;cases e
  | _=>simp only [q9] at e;cases e
noncomputable def d2p:RuS where
 is _ lc e:=match e with
  | .Assign [.Tuple ts _ _] e _=>(q9 lc ts).isSome&&C5 e&&b2z e&&!quiet lc
  | _=>false
 run r _ _ lc e ρ:=match e with
  | .Assign [.Tuple ts _ _] e _=>(match q9 lc ts with
   | some is=>bind (r.e lc e ρ) λd=>A4 (m9 is) d ρ
   | none=>bad)
  | _=>bad
 ok {T k r Γ C lc X} e R TX h hf hi:=by
  split at hi
  ·rename_i ts n p e pos
   simp only [Bool.and_eq_true,Bool.not_eq_true'] at hi
   obtain ⟨⟨⟨h1,h2⟩,h3⟩,h4⟩:=hi
   show PS X _ (sD X.K T.cl (xOf X) λρ=>(match q9 lc ts with
    | some is=>bind (r.e lc e ρ) λd=>A4 (m9 is) d ρ
    | none=>bad))
   cases e1:q9 lc ts with
   | none=>exact O7
   | some is=>exact b8j (h.calm h4) h.nd' (Q7 h hf e1) (R.ex h _) h2 h3
  ·cases hi
 runK q _ _ lc e ρ _ k:=match e with
  | .Assign [.Tuple ts _ _] e _=>(match q9 lc ts with
   | some is=>q.e lc e ρ λd=>bind (A4 (m9 is) d ρ) k
   | none=>bad)
  | _=>bad
 eq {r q Γ C lc} e ρ _ k h:=by
  split
  ·rename_i ts n p e pos
   cases q9 lc ts with
   | none=>rfl
   | some is=>simp only [h.e,a8]
  ·first
   | rfl
   | (rename_i hn;split;exact (hn _ _ _ _ _ rfl).elim;rfl)
noncomputable def c7k:RuS where
 is _ _ e:=match e with
  | .Assign [.Subscript _ b _] e _=>C5 e&&F9 b
  | _=>false
 run r _ _ lc e ρ:=match e with
  | .Assign [.Subscript a b _] e _=>bind (r.e lc e ρ) λv=>bind (r.e lc a ρ) λx=>bind (r.e lc b ρ) λy=>bind (P9 x y v) λ_=>ret (.nx ρ)
  | _=>bad
 ok e R TX h hf hi:=by
  split at hi
  ·rw [Bool.and_eq_true] at hi
   exact b3r h.u1 (R.ex h _) (R.ex h _) (R.ex h _) hi.1 hi.2
  ·cases hi
 runK q _ _ lc e ρ _ k:=match e with
  | .Assign [.Subscript a b _] e _=>q.e lc e ρ λv=>q.e lc a ρ λx=>q.e lc b ρ λy=>bind (P9 x y v) λ_=>k (.nx ρ)
  | _=>bad
 eq e ρ _ k h:=by
  split
  ·simp only [h.e,a8,j9]
  ·first
   | rfl
   | (rename_i hn;split;exact (hn _ _ _ _ _ rfl).elim;rfl)
noncomputable def tgE (lc:Lc) (tgt:Expr):Option (D->Env->Option Env):=match tgt with
 | .Name x _=>if a5r lc.sc x=true then (n4 lc.N x).map λi=>λd ρ=>some (ρ.set i (some d)) else none
 | .Tuple ts _ _=>(q9 lc ts).map m9
 | _=>none
theorem c7f {T:Tx} {k:Nat} {lc:Lc} {X:Cx} (h:CxOk T k lc X) (hf:lc.fr=true) (hq:quiet lc=false) {tgt:Expr} {tg:D->Env->Option Env} (e:tgE lc tgt=some tg):PG X tgt (b73 X.K T.cl tg):=by
 unfold tgE at e
 split at e
 ·rename_i x p
  by_cases hl:a5r lc.sc x=true
  ·simp only [if_pos hl] at e
   cases e1:n4 lc.N x with
   | none=>rw [e1] at e;cases e
   | some i=>rw [e1] at e;cases e;exact b22 h.nd' (by rw [h.N];exact B9 e1) (by rw [h.sc];exact R3 hl) (.inl (h.fn1 hf))
  ·simp only [if_neg hl] at e;cases e
 ·rename_i ts n p
  cases e1:q9 lc ts with
  | none=>rw [e1] at e;cases e
  | some is=>rw [e1] at e;cases e;exact a3r (h.calm hq) h.nd' (Q7 h hf e1)
 ·cases e
noncomputable def d0z:RuS where
 is _ lc e:=match e with
  | .For _ iter _ [] _=>z0 iter&&!quiet lc
  | _=>false
 run r _ _ lc e ρ:=match e with
  | .For tgt iter body [] _=>(match tgE lc tgt with
   | some tg=>bind (r.i lc tgt iter ρ) λp=>y8 p.1 tg (a1g r lc body) p.2 0 ρ
   | none=>bad)
  | _=>bad
 ok {T k r Γ C lc X} e R TX h hf hi:=by
  split at hi
  ·rename_i tgt iter body pos
   simp only [Bool.and_eq_true,Bool.not_eq_true'] at hi
   show PS X _ (sD X.K T.cl (xOf X) λρ=>(match tgE lc tgt with
    | some tg=>bind (r.i lc tgt iter ρ) λp=>y8 p.1 tg (a1g r lc body) p.2 0 ρ
    | none=>bad))
   cases e:tgE lc tgt with
   | none=>exact O7
   | some tg=>exact c01 h.po (h.calm hi.2) (R.ix h _ _) (c7f h hf hi.2 e) (W2 R h hf) hi.1
  ·cases hi
 runK q _ _ lc e ρ _ k:=match e with
  | .For tgt iter body [] _=>(match tgE lc tgt with
   | some tg=>q.i lc tgt iter ρ λp=>bind (y8 p.1 tg (λρ'=>k4 q lc body ρ' ret) p.2 0 ρ) k
   | none=>bad)
  | _=>bad
 eq {r q Γ C lc} e ρ _ k h:=by
  split
  ·rename_i tgt iter body pos
   cases tgE lc tgt with
   | none=>rfl
   | some tg=>
    have:(λρ'=>k4 q lc body ρ' ret)=a1g r lc body:=funext λρ'=>by rw [a34 h,Y5]
    simp only [h.i,a8,this]
  ·first
   | rfl
   | (rename_i hn;split;exact (hn _ _ _ _ rfl).elim;rfl)
end L3
namespace L3
open PySem PySem.Spec PyProof.Rows L2
theorem b47 {env:PySem.Env} {ts es:List Expr} {k k2:Nat} {p p2:Pos} (h:es.all (foldedForSure 8)=true):swappedStores [.Tuple ts k p] (.Tuple es k2 p2) env=pure none:=by
 unfold swappedStores
 simp only
 repeat' (first | rfl | split)
 all_goals (rename_i h2;first | exact absurd h h2 | rfl)
noncomputable def c77:RuS where
 is _ lc e:=match e with
  | .Assign [.Tuple ts _ _] (.Tuple es _ _) _=>(q9 lc ts).isSome&&es.all (foldedForSure 8)&&!quiet lc
  | _=>false
 run r _ _ lc e ρ:=match e with
  | .Assign [.Tuple ts _ _] (.Tuple es k p) _=>(match q9 lc ts with
   | some is=>bind (r.e lc (.Tuple es k p) ρ) λd=>A4 (m9 is) d ρ
   | none=>bad)
  | _=>bad
 ok {T k r Γ C lc X} e R TX h hf hi:=by
  split at hi
  ·rename_i ts n p es k2 p2 pos
   simp only [Bool.and_eq_true,Bool.not_eq_true'] at hi
   obtain ⟨⟨h1,h2⟩,h4⟩:=hi
   show PS X _ (sD X.K T.cl (xOf X) λρ=>(match q9 lc ts with
    | some is=>bind (r.e lc (.Tuple es k2 p2) ρ) λd=>A4 (m9 is) d ρ
    | none=>bad))
   cases e1:q9 lc ts with
   | none=>exact O7
   | some is=>
    exact PS.imp (a6v (R.ex h _) (a3r (cl:=T.cl) (h.calm h4) h.nd' (Q7 h hf e1)) (by unfold swapsWithSole;exact L5 rfl) (b47 h2) rfl) λD σ H ⟨μ,S,ρ,eo,rp,p⟩=>
     ⟨μ,S,ρ,eo,rp,p.bind.imp λd S1 μ1 H1 l1 r1 p1 v rv=>by
      cases e1:m9 is d ρ with
      | none=>simp only [A4,e1] at p1;exact p1.elim
      | some ρ'=>simp only [A4,e1] at p1;exact ⟨μ1,S1,ρ,d,ρ',eo.later l1,r1,rv,e1,p1.ret μ1 H1 (Lat.refl _ _) r1⟩⟩
  ·cases hi
 runK q _ _ lc e ρ _ k:=match e with
  | .Assign [.Tuple ts _ _] (.Tuple es k2 p) _=>(match q9 lc ts with
   | some is=>q.e lc (.Tuple es k2 p) ρ λd=>bind (A4 (m9 is) d ρ) k
   | none=>bad)
  | _=>bad
 eq {r q Γ C lc} e ρ _ k h:=by
  split
  ·rename_i ts n p es k2 p2 pos
   cases q9 lc ts with
   | none=>rfl
   | some is=>simp only [h.e,a8]
  ·first
   | rfl
   | (rename_i hn;split;exact (hn _ _ _ _ _ _ _ rfl).elim;rfl)
end L3
end

section
set_option maxHeartbeats 1000000
namespace L3
open PySem PySem.Spec PyProof.Rows L2
noncomputable def c4d:RuS where
 is Γ lc e:=match e with
  | .Raise (some (.Call (.Name x _) (a :: es) [] _)) none _=>F8 x&&glB lc.sc x&&(a :: es).all noStar&&!quiet lc
  | _=>false
 run r Γ _ lc e ρ:=match e with
  | .Raise (some (.Call (.Name x _) (a :: es) [] _)) none _=>bind (b0t r Γ lc x (a :: es) ρ) y3
  | _=>bad
 ok {T k r Γ C lc X} e R TX h hf hi:=by
  split at hi
  ·simp only [Bool.and_eq_true,Bool.not_eq_true'] at hi
   exact b3t (h.calm hi.2) (a8l R TX h hi.1.1.1 hi.1.1.2 hi.1.2 hi.2)
  ·cases hi
 runK q Γ _ lc e ρ _ k:=match e with
  | .Raise (some (.Call (.Name x _) (a :: es) [] _)) none _=>c0z q Γ lc x (a :: es) ρ λd=>bind (y3 d) k
  | _=>bad
 eq {r q Γ C lc} e ρ _ k h:=by
  split
  ·simp only [b2x h,a8]
  ·first
   | rfl
   | (rename_i hn;split;exact (hn _ _ _ _ _ _ rfl).elim;rfl)
structure Fd where
 ps:List Str
 N:List Str
 sc:Scope
 body:List Stmt
 mu:List Str
noncomputable def U2 (N:List Str) (ds:List D):Env:=ds.map some++List.replicate (N.length-ds.length) none
noncomputable def endD (fl:Fl):M D:=match fl with
 | .rt d=>ret d
 | .nx _=>ret .non
 | _=>bad
noncomputable abbrev y4 (fd:Fd):Lc:=⟨fd.N,fd.sc,true,fd.mu⟩
noncomputable def N2 (Rs:Rules) (Γ:Gm) (Tb:List Fd):Nat->Nat->List D->M D
 | 0,_,_=>bad
 | k+1,i,ds=>match Tb[i]? with
  | none=>bad
  | some fd=>if ds.length=fd.ps.length then bind (a1g (ev Rs Γ (N2 Rs Γ Tb k) 40) (y4 fd) fd.body (U2 fd.N ds)) endD else bad
structure FnTx (T:Tx) (x:Str) (fd:Fd):Prop where
 ex:∃ (f:Addr) (da:FuncData) (qual:Str) (st:Stmt),Fun T.K x qual st f da/\m4 st=fd.body/\c9 st=fd.sc/\FnScope fd.N fd.ps fd.sc/\Binds T.K da fd.ps []/\T.mg x=some (.ref f)
theorem a4u {K:PySem.W.Frag} {μ:Mp} {H:Hp} {N:List Str} {ds:List D} {vs:List V} (r:RDs K μ H ds vs):EnvOk K μ H (U2 N ds) (L2.start N vs):=by
 unfold U2 L2.start
 refine ⟨by simp [r.length],λi d e=>?_⟩
 by_cases hi:i<ds.length
 ·rw [List.getElem?_append_left (by simpa using hi),List.getElem?_map] at e
  cases q:ds[i]? with
  | none=>rw [q] at e;cases e
  | some d'=>
   rw [q] at e;cases e
   obtain ⟨v,e1,r1⟩:=r.get q
   refine ⟨v,?_,r1⟩
   rw [List.getElem?_append_left (by rw [List.length_map,<- r.length];exact hi),List.getElem?_map,e1];rfl
 ·rw [List.getElem?_append_right (by simpa using Nat.le_of_not_lt hi),List.getElem?_replicate] at e
  split at e <;> cases e
section
variable {P:Program} {w:World} {K:PySem.W.Frag} {mg:Str->Option Value} {base:Heap}
theorem b3d {CX:CXT} {x qual:Str} {st:Stmt} {f:Addr} {fd:FuncData} {N ps:List Str} {k:Nat} {sp:Sp} (F:Fun K x qual st f fd) (S:FnScope N ps (c9 st)) (len:∀ vs H Q E,sp vs H Q E->vs.length=ps.length)
  (hbody:∀ (cdv:Value) (A:Around) (outer:List PySem.Env) (s:Shared) (H:Hp) (vs:List V) (Q:VK) (E:XK),Room CX.q k (A.deeper (envOfC qual (c9 st) s.heap.objs.size f cdv))->sp vs H Q E ->
   ∃ t,PSs (Z9 CX P w K mg base N qual (c9 st) f cdv A outer s H E) (m4 st) t/\t { nx:=λ_ H'=>Q .non H',rt:=Q } (start N vs) H):FnOk P w K mg base CX (k+1) f fd ps sp:=by
 obtain ⟨oc,od,kV,doc,pm,an,cdv,ct,osl,rfl,lk,hcd⟩:=F.ex
 exact c03 lk hcd S len λA outer s H vs Q E hr hsp=>hbody cdv A outer s H vs Q E hr hsp
theorem Post.fly {α:Type} {cl:Nat->Addr} {N:List Str} {qual:Str} {scope:Scope} {f:Addr} {cd:Value} {A:Around} {outer:List PySem.Env} {s:Shared} {H0 H:Hp} {E:XK} {μ:Mp} {r:R α} {G:α->Sto->Mp->Hp->Prop} (p:Post K cl (b5u E) μ H r G) :
  Post K cl (xOf (Z9 (CXd P w K) P w K mg base N qual scope f cd A outer s H0 E)) μ H r G:=by
 cases r with
 | ok a S=>exact p
 | bad=>exact p
 | exn n S=>
  intro μ' H' a l rp e pins σ s' C d tb I fx
  refine a6i (X:=Z9 (CXd P w K) P w K mg base N qual scope f cd A outer s H0 E) I I.ok.frames rfl rfl fx λH2 s2 T I2 fx2 m2=>?_
  obtain ⟨l2,r2⟩:=rp.mv I.hok e fx.at_ m2
  exact ⟨a,C,d,some T,H2,rfl,I2.os,I2.bare,I2.base,I2.hok,fx2,p μ' H2 a (l.trans l2) r2 e⟩
end
theorem FnOk.unX {P:Program} {w:World} {K:PySem.W.Frag} {mg:Str->Option Value} {base:Heap} {k n:Nat} {f:Addr} {fd:FuncData} {ps:List Str} {cl:Nat->Addr} {run:List D->M D} (F:FnOk P w K mg base (CXd P w K) k f fd ps (spX K cl n run)):FnOk P w K mg base (CXq false) k f fd ps (spD K cl n run):=
 ⟨λvs H Q E h=>F.len vs H Q E0 h,λA outer s H args us vs Q E hr e0 hb r h=>codeAny_mono (F.run A outer s H args us vs Q E0 hr e0 hb r h) λres s' hq=>by
  cases res with
  | ok fl=>cases fl <;> exact hq
  | error e=>obtain ⟨_,_,_,_,_,_,_,_,_,_,_,z⟩:=hq;exact z⟩
section
variable {Rs:Rules} {T:Tx} {Γ:Gm} {Tb:List Fd} {k i:Nat} {x qual:Str} {st:Stmt} {f:Addr} {da:FuncData} {fd:Fd}
theorem a58 (TX:TxOk T Γ (k+3) (N2 Rs Γ Tb k)) (hi:Tb[i]?=some fd) (F:Fun T.K x qual st f da) (h1:m4 st=fd.body) (h2:c9 st=fd.sc) (S:FnScope fd.N fd.ps fd.sc) (hq:quiet (y4 fd)=false) :
  FnOk T.P T.w T.K T.mg T.base (CXd T.P T.w T.K) (k+4) f da fd.ps (spX T.K T.cl fd.ps.length (N2 Rs Γ Tb (k+1) i)):=by
 have S':FnScope fd.N fd.ps (c9 st):=by rw [h2];exact S
 refine b3d (k:=k+3) F S' (λvs H Q E h=>h.1) λcdv A outer s H vs Q E hr hsp=>?_
 obtain ⟨hl,μ,S0,ds,rds,rp,p⟩:=hsp
 have cx:CxOk T (k+3) (y4 fd) (Z9 (CXd T.P T.w T.K) T.P T.w T.K T.mg T.base fd.N qual (c9 st) f cdv A outer s H E):=⟨rfl,rfl,rfl,rfl,rfl,rfl,S.nd,h2,λ_=>rfl,by rw [hq];exact hr,λe s' z=>wpAny_leaving_again (SameStack.refl _) z,rfl,S.kind,λ_ _=>⟨rfl,rfl⟩⟩
 have R:=b6b (Rs:=Rs) TX 40
 refine ⟨_,by rw [h1];exact W2 R cx rfl,?_⟩
 refine ⟨μ,S0,U2 fd.N ds,a4u rds,rp,?_⟩
 have hd:ds.length=fd.ps.length:=by rw [rds.length];exact hl
 simp only [N2,hi,if_pos hd] at p
 refine Post.fly (p.bind.imp λfl S1 μ1 H1 l1 r1 p1=>?_)
 cases fl with
 | nx ρ=>exact λσ _=>p1 μ1 H1 (Lat.refl _ _) r1 _ .non
 | rt d=>exact λv rv=>p1 μ1 H1 (Lat.refl _ _) r1 v rv
 | bk ρ=>exact False.elim p1
 | ct ρ=>exact False.elim p1
theorem b3g (TX:TxOk T Γ (k+3) (N2 Rs Γ Tb k)) (hi:Tb[i]?=some fd) (F:Fun T.K x qual st f da) (h1:m4 st=fd.body) (h2:c9 st=fd.sc) (S:FnScope fd.N fd.ps fd.sc) (hq:quiet (y4 fd)=true) :
  FnOk T.P T.w T.K T.mg T.base (CXq true) (k+4) f da fd.ps (spD T.K T.cl fd.ps.length (N2 Rs Γ Tb (k+1) i)):=by
 have S':FnScope fd.N fd.ps (c9 st):=by rw [h2];exact S
 refine b3d (k:=k+3) F S' (λvs H Q E h=>h.1) λcdv A outer s H vs Q E hr hsp=>?_
 obtain ⟨hl,μ,S0,ds,rds,rp,p⟩:=hsp
 have cx:CxOk T (k+3) (y4 fd) (Z9 (CXq true) T.P T.w T.K T.mg T.base fd.N qual (c9 st) f cdv A outer s H E).nox:=⟨rfl,rfl,rfl,rfl,rfl,rfl,S.nd,h2,λz=>(by rw [hq] at z;exact absurd z (by decide)),by rw [hq];exact hr,PassesOwn.never,rfl,S.kind,λ_ z=>(by rw [hq] at z;exact absurd z (by decide))⟩
 have R:=b6b (Rs:=Rs) TX 40
 refine ⟨_,by rw [h1];exact PSs.nox (PSs.x0 (W2 R cx rfl)),?_⟩
 refine ⟨μ,S0,U2 fd.N ds,a4u rds,rp,?_⟩
 have hd:ds.length=fd.ps.length:=by rw [rds.length];exact hl
 simp only [N2,hi,if_pos hd] at p
 refine p.bind.imp λfl S1 μ1 H1 l1 r1 p1=>?_
 cases fl with
 | nx ρ=>exact λσ _=>p1 μ1 H1 (Lat.refl _ _) r1 _ .non
 | rt d=>exact λv rv=>p1 μ1 H1 (Lat.refl _ _) r1 v rv
 | bk ρ=>exact False.elim p1
 | ct ρ=>exact False.elim p1
theorem b90 (TX:TxOk T Γ (k+3) (N2 Rs Γ Tb k)) (hi:Tb[i]?=some fd) (F:Fun T.K x qual st f da) (h1:m4 st=fd.body) (h2:c9 st=fd.sc) (S:FnScope fd.N fd.ps fd.sc) (hq:quiet (y4 fd)=false:=by rfl) :
  FnOk T.P T.w T.K T.mg T.base (CXq false) (k+4) f da fd.ps (spD T.K T.cl fd.ps.length (N2 Rs Γ Tb (k+1) i)):=FnOk.unX (a58 TX hi F h1 h2 S hq)
noncomputable def c3t (Γ:Gm) (Tb:List Fd):Bool:=(List.range Tb.length).all λi=>match Tb[i]? with
 | some fd=>quiet (y4 fd)==Γ.qs.contains i
 | none=>false
theorem a78 (h:c3t Γ Tb=true) (hi:Tb[i]?=some fd):quiet (y4 fd)=Γ.qs.contains i:=by
 unfold c3t at h
 have:=(List.all_eq_true.mp h) i (List.mem_range.mpr (List.getElem?_eq_some_iff.mp hi).1)
 rw [hi] at this
 simpa using this
end
structure TxSt (T:Tx) (Γ:Gm):Prop where
 blt:∀ x∈bnames,Γ.gl.lookup x=none->T.mg x=none
 val:∀ x d,Γ.gl.lookup x=some (.val d)->∃ u v,T.mg x=some u/\RelV v u/\∀ μ H,RD T.K μ H d v
 err:∀ x c fs,Γ.gl.lookup x=some (.err c fs)->ErrAt T x c fs/\(∀ g∈fs,A9 T.K (T.cl c) g)
 sub:∀ x c c0 fs,Γ.gl.lookup x=some (.err c0 fs)->XC T.K (T.cl c)->PySem.W.kitOne T.K (.ref (T.cl c)) (.ref (T.cl c0))=some (Γ.sub c c0)
 subV:∀ c,XC T.K (T.cl c)->PySem.W.kitOne T.K (.ref (T.cl c)) (.type "ValueError")=some true
 subT:∀ c,XC T.K (T.cl c)->∀ t∈tys,PySem.W.kitOne T.K (.ref (T.cl c)) (.type t)=some false
 fld:∀ g∈Γ.flds,∀ c,XC T.K (T.cl c)->A9 T.K (T.cl c) g
 dct:∀ x kvs,Γ.gl.lookup x=some (.dct kvs)->b33 T x kvs
noncomputable def b29 (T:Tx) (Γ:Gm) (Tb:List Fd):Prop:=∀ x i n,Γ.gl.lookup x=some (.fn i n)->∃ fd,Tb[i]?=some fd/\fd.ps.length=n/\FnTx T x fd
theorem TxSt.ok {T:Tx} {Γ:Gm} (h:TxSt T Γ) {k:Nat} {C:Cf} (f:∀ x i n,Γ.gl.lookup x=some (.fn i n)->i∉Γ.qs->FnX T (k+3) i n x (C i)) (fq:∀ x i n,Γ.gl.lookup x=some (.fn i n)->i∈Γ.qs->FnAt T (k+3) i n x (C i)):TxOk T Γ (k+3) C:=⟨h.blt,h.val,f,fq,h.err,h.sub,h.subV,h.subT,h.fld,h.dct,by omega⟩
theorem b8h {Rs:Rules} {T:Tx} {Γ:Gm} {Tb:List Fd} (h:TxSt T Γ) (fs:b29 T Γ Tb) (k:Nat) (hq:c3t Γ Tb=true:=by rfl):TxOk T Γ (k+3) (N2 Rs Γ Tb k):=by
 induction k with
 | zero=>
  have bad:∀ x i n,Γ.gl.lookup x=some (.fn i n)->∃ (a:Addr) (fd:FuncData) (ps:List Str),ps.length=n/\(∀ CX,FnOk T.P T.w T.K T.mg T.base CX 3 a fd ps (spX T.K T.cl n (N2 Rs Γ Tb 0 i)))/\T.mg x=some (.ref a)/\PySem.W.keepIn T.K (.ref a)=true/\Binds T.K fd ps []:=λx i n e=>by
   obtain ⟨fd,h1,h2,h3⟩:=fs x i n e
   obtain ⟨f,da,qual,st,F,_,_,_,b,m⟩:=h3.ex
   refine ⟨f,da,fd.ps,h2,λCX=>⟨λvs H Q E h=>by rw [h2];exact h.1,λA outer s H args us vs Q E _ _ _ _ hsp=>?_⟩,m,F.kp,b⟩
   obtain ⟨_,μ,S,ds,_,_,p⟩:=hsp
   exact p.elim
  refine h.ok (λx i n e _=>?_) λx i n e _=>?_
  ·obtain ⟨a,fd,ps,h1,h2,h3⟩:=bad x i n e
   exact ⟨a,fd,ps,h1,h2 _,h3⟩
  ·obtain ⟨a,fd,ps,h1,h2,h3⟩:=bad x i n e
   exact ⟨a,fd,ps,h1,FnOk.imp (h2 _) (sp':=spD T.K T.cl n (N2 Rs Γ Tb 0 i)) λvs H Q E ⟨_,μ,S,ds,_,_,p⟩=>p.elim,h3⟩
 | succ k TX=>
  refine h.ok (k:=k+1) (λx i n e hn=>?_) λx i n e m=>?_
  ·obtain ⟨fd,h1,h2,h3⟩:=fs x i n e
   subst h2
   obtain ⟨f,da,qual,st,F,g1,g2,S,b,m2⟩:=h3.ex
   exact ⟨f,da,fd.ps,rfl,a58 TX h1 F g1 g2 S (by rw [a78 hq h1];simpa using hn),m2,F.kp,b⟩
  ·obtain ⟨fd,h1,h2,h3⟩:=fs x i n e
   subst h2
   obtain ⟨f,da,qual,st,F,g1,g2,S,b,m2⟩:=h3.ex
   exact ⟨f,da,fd.ps,rfl,b3g TX h1 F g1 g2 S (by rw [a78 hq h1];simpa using m),m2,F.kp,b⟩
noncomputable def runK (Rs:Rules) (Γ:Gm) (C:Cf) (fd:Fd) (ds:List D):M D:=if ds.length=fd.ps.length then k4 (evK Rs Γ C 40) ⟨fd.N,fd.sc,true,fd.mu⟩ fd.body (U2 fd.N ds) endD else bad
theorem c7 {Rs:Rules} {Γ:Gm} {Tb:List Fd} {k i:Nat} {fd:Fd} (h:Tb[i]?=some fd) (ds:List D):N2 Rs Γ Tb (k+1) i ds=runK Rs Γ (N2 Rs Γ Tb k) fd ds:=by
 simp only [N2,h,runK]
 split
 ·rw [a34 (c1o 40)]
 ·rfl
noncomputable def b1p (a:Arguments):List Str:=a.args.map (·.arg)
noncomputable def b69 (ps:List Str) (sc:Scope):List Str:=ps++(sc.names.filter λy=>(y.2==.local||y.2==.cell)&&!ps.contains y.1).map (·.1)
noncomputable def j6 (st:Stmt) (mu:List Str):Fd:=⟨b1p (w8 st),b69 (b1p (w8 st)) (c9 st),c9 st,m4 st,mu⟩
noncomputable def a22 (fd:Fd):Bool:=decide (fd.sc.kind=.function)&&!fd.sc.isCoroutine&&!fd.sc.isGenerator&&decide fd.N.Nodup&&decide (fd.N.take fd.ps.length=fd.ps)&&fd.ps.all (λx=>a5r fd.sc x)&&fd.sc.names.all (λy=>decide (y.2≠.free))
theorem a0q {fd:Fd} (h:a22 fd=true):FnScope fd.N fd.ps fd.sc:=by
 simp only [a22,Bool.and_eq_true,decide_eq_true_eq,List.all_eq_true,Bool.not_eq_true'] at h
 obtain ⟨⟨⟨⟨⟨⟨h1,h2⟩,h3⟩,h4⟩,h5⟩,h6⟩,h7⟩:=h
 exact ⟨h1,h2,h3,h4,h5,λx hx=>R3 (h6 x hx),h7⟩
noncomputable def d2i:RuE:=rBf "sum" "sum" true (one b6r) (by decide) rfl λ_ hc=>c8n (hc rfl)
noncomputable def c0g:RuE:=rMt "count" tupOf countT λ_ ho ha c1 c2 c3 c4=>a28 PySem.F.plainAttrs_tuple PySem.F.slot_tuple_count PySem.F.type_tuple_count b0s a9q a54 ho ha c1 c2 c3 c4
end L3
end
section
set_option maxHeartbeats 1000000
namespace HT
open PySem PySem.Spec PyProof.Rows
end HT
namespace L2
open PySem PySem.Spec PyProof.Rows
end L2
namespace L3
open PySem PySem.Spec PyProof.Rows L2
end L3
end

section
set_option maxHeartbeats 1000000
namespace L3
open PySem PySem.Spec PyProof.Rows L2
end L3
end
section
set_option maxHeartbeats 4000000
namespace L2
open PySem PySem.Spec PyProof.Rows
end L2
end
section
set_option maxHeartbeats 1000000
namespace L3
open PySem PySem.Spec PyProof.Rows L2
noncomputable def c0h:RuE where
 is Γ lc e:=rCount.is Γ lc e&&decide (("count[]" : Str)∈lc.mu)
 run:=rCount.run
 ok e R TX h hi:=rCount.ok e R TX h (by rw [Bool.and_eq_true] at hi;exact hi.1)
 runK:=rCount.runK
 eq e ρ _ k h:=rCount.eq e ρ k h
noncomputable def a3d (m turn cell:D):M D:=
 bind (Z5 cell (.int 1000003)) λa1=>bind (C7 (.int 31) turn) λb1=>bind (C7 b1 turn) λb2=>bind (f9 a1 b2) λc1=>bind (C7 (.int 7) turn) λd1=>bind (f9 c1 d1) λc2=>bind (f9 c2 (.int 11)) λc3=>bind (C7 c3 (.int 48271)) λc4=>bind (Z5 c4 (.int 2147483647)) λmixed=>
 bind (G1 mixed (.int 64)) λe1=>bind (C7 e1 (.int 69621)) λe2=>bind (C7 (.int 7919) turn) λe3=>bind (f9 e2 e3) λe4=>bind (Z5 e4 (.int 2147483587)) λmixed2=>
 bind (G1 mixed2 (.int 64)) λf1=>bind (Z5 f1 m) λf2=>ret f2
noncomputable def a3h (p m turn cells cell:D) (z:Bool):M D:=
 if z=true then bind (G1 cell m) λv=>bind (P9 p (.str "left") v) λ_=>bind (Z5 cell m) λd=>ret d
 else a3d m turn cell
noncomputable def L9 (p m turn cells cell:D):M D:=
 bind (ixD p (.str "at")) λx=>bind (f9 x (.int 1)) λv=>bind (P9 p (.str "at") v) λ_=>
 bind (c0w (.int 10) (.int 18)) λy=>bind (b8 .GtE cell y) λd=>bind (asB d) λc=>
 if c=true then bind (ixD p (.str "at")) λx=>bind (j8 cells) λy=>bind (b8 .LtE x y) λd=>bind (asB d) λz=>a3h p m turn cells cell z
 else a3h p m turn cells cell false
noncomputable def a8g (p m:D):M D:=
 bind (ixD p (.str "turn")) λx=>bind (f9 x (.int 1)) λturn=>bind (P9 p (.str "turn") turn) λ_=>
 bind (ixD p (.str "left")) λx=>bind (b8 .Gt x (.int 0)) λd=>bind (asB d) λz=>
 if z=true then bind (ixD p (.str "left")) λx=>bind (Z5 x m) λdigit=>bind (ixD p (.str "left")) λx=>bind (G1 x m) λv=>bind (P9 p (.str "left") v) λ_=>ret digit
 else bind (ixD p (.str "cells")) λcells=>bind (j8 cells) λx=>bind (b8 .Gt x (.int 0)) λd=>bind (asB d) λz=>
  if z=true then bind (ixD p (.str "at")) λx=>bind (j8 cells) λy=>bind (Z5 x y) λi=>bind (ixD cells i) λcell=>L9 p m turn cells cell
  else L9 p m turn cells (.int 0)
theorem b7 {α β:Type} {m:M α} {k:α->M β} {S S':Sto} {a:α} (e:m S=.ok a S'):bind m k S=k a S':=by unfold bind;rw [e]
theorem Y6 {S:Sto} {p:Nat} {kvs:List (Key×D)} {x:Str} {d:D} (h:S[p]?=some (.dct kvs)) (e:X3 kvs (.inr x)=some d):ixD (.ref p) (.str x) S=.ok d S:=by
 simp only [ixD,h,D1,Option.bind_some,e,a3l,ret]
theorem a0j {S:Sto} {p:Nat} {kvs kvs':List (Key×D)} {x:Str} {v:D} (h:S[p]?=some (.dct kvs)) (hl:kvs.length<sizeLine) (e:b0y kvs (.inr x) v=kvs'):P9 (.ref p) (.str x) v S=.ok .non (S.set p (.dct kvs')):=by
 simp only [P9,h,D1,if_pos hl,e]
theorem b6g {S:Sto} {p:Nat} {o o':O} (h:S[p]?=some o):(S.set p o')[p]?=some o':=List.getElem?_set_self (List.getElem?_eq_some_iff.mp h).1
noncomputable def k8 (ns:List Int) (a l t:Int):O:=.dct [(.inr "cells",.lst (ns.map D.int)),(.inr "at",.int a),(.inr "left",.int l),(.inr "turn",.int t)]
section
variable {S:Sto} {p:Nat} {ns:List Int} {a l t:Int} (h:S[p]?=some (k8 ns a l t))
include h
theorem b99:ixD (.ref p) (.str "cells") S=.ok (.lst (ns.map D.int)) S:=Y6 h rfl
theorem c5v:ixD (.ref p) (.str "at") S=.ok (.int a) S:=Y6 h rfl
theorem a7g:ixD (.ref p) (.str "left") S=.ok (.int l) S:=Y6 h rfl
theorem c13:ixD (.ref p) (.str "turn") S=.ok (.int t) S:=Y6 h rfl
theorem c74 (v:Int):P9 (.ref p) (.str "at") (.int v) S=.ok .non (S.set p (k8 ns v l t)):=a0j h (by show 4<sizeLine;decide) rfl
theorem a8s (v:Int):P9 (.ref p) (.str "left") (.int v) S=.ok .non (S.set p (k8 ns a v t)):=a0j h (by show 4<sizeLine;decide) rfl
theorem c0l (v:Int):P9 (.ref p) (.str "turn") (.int v) S=.ok .non (S.set p (k8 ns a l v)):=a0j h (by show 4<sizeLine;decide) rfl
end
theorem a17 (i j:Int) (S:Sto):f9 (.int i) (.int j) S=.ok (.int (i+j)) S:=rfl
theorem c1f (i j:Int) (S:Sto):a08 (.int i) (.int j) S=.ok (.int (i-j)) S:=rfl
theorem a0s {i j:Int} (h:0<j) (S:Sto):Z5 (.int i) (.int j) S=.ok (.int (i % j)) S:=by simp only [Z5,if_pos h,ret]
theorem T9 {i j:Int} (h:0<j) (h2:j<1073741824) (S:Sto):G1 (.int i) (.int j) S=.ok (.int (i / j)) S:=by
 have hc:b32 i j:=⟨h,h2⟩
 simp only [G1,if_pos hc,ret]
theorem T4 {i j:Int} (h:CMul i j) (S:Sto):C7 (.int i) (.int j) S=.ok (.int (i * j)) S:=by simp only [C7,if_pos h,ret]
theorem a0n (ns:List Int) (S:Sto):j8 (.lst (ns.map D.int)) S=.ok (.int ns.length) S:=by
 show R.ok (D.int ((ns.map D.int).length:Nat)) S=_
 rw [List.length_map]
theorem c0v {ns:List Int} {a:Int} (ha:0<=a) (hn:0<ns.length) (S:Sto):∃ z:Int,ixD (.lst (ns.map D.int)) (.int (a % (ns.length:Int))) S=.ok (.int z) S:=by
 have hb:(0:Int)<(ns.length:Int):=by omega
 have h0:=Int.emod_nonneg a (Int.ne_of_gt hb)
 have h1:=Int.emod_lt_of_pos a hb
 obtain ⟨j,hj⟩:=Int.eq_ofNat_of_zero_le h0
 have hj':j<ns.length:=by omega
 refine ⟨ns[j],?_⟩
 rw [hj]
 show a3l (atI (ns.map D.int) (j:Int)) S=_
 rw [a29 (v:=D.int ns[j]) (by rw [List.getElem?_map,List.getElem?_eq_getElem hj'];rfl)]
 rfl
theorem a7v {m t c:Int} (hm:0<m) (ht:0<=t) (htb:t<2000000) (S:Sto):∃ r:Int,a3d (.int m) (.int t) (.int c) S=.ok (.int r) S/\0<=r/\r<m:=by
 unfold a3d
 rw [b7 (a0s (by decide) S),b7 (T4 (.inl ⟨by decide,by decide⟩) S),b7 (T4 (.inr ⟨by omega,by omega⟩) S),b7 (a17 _ _ S),b7 (T4 (.inl ⟨by decide,by decide⟩) S),b7 (a17 _ _ S),b7 (a17 _ _ S),b7 (T4 (.inr ⟨by decide,by decide⟩) S),b7 (a0s (by decide) S),
  b7 (T9 (by decide) (by decide) S),b7 (T4 (.inr ⟨by decide,by decide⟩) S),b7 (T4 (.inl ⟨by decide,by decide⟩) S),b7 (a17 _ _ S),b7 (a0s (by decide) S),b7 (T9 (by decide) (by decide) S),b7 (a0s hm S)]
 exact ⟨_,rfl,Int.emod_nonneg _ (Int.ne_of_gt hm),Int.emod_lt_of_pos _ hm⟩
theorem set_set {S:Sto} {p:Nat} {o o':O}:(S.set p o).set p o'=S.set p o':=List.set_set ..
theorem a4c {S:Sto} {p:Nat} {ns:List Int} {a l t m c:Int} (h:S[p]?=some (k8 ns a l t)) (ha:0<=a) (hl:0<=l) (ht:0<=t) (htb:t<2000000) (hm:0<m) (hm2:m<1073741824) :
  ∃ r a' l',L9 (.ref p) (.int m) (.int t) (.lst (ns.map D.int)) (.int c) S=.ok (.int r) (S.set p (k8 ns a' l' t))/\0<=r/\r<m/\0<=a'/\0<=l':=by
 unfold L9
 rw [b7 (c5v h),b7 (a17 _ _ S),b7 (c74 h _)]
 have h1:=b6g (o':=k8 ns (a+1) l t) h
 have hp:c0w (.int 10) (.int 18) (S.set p (k8 ns (a+1) l t))=.ok (.int 1000000000000000000) (S.set p (k8 ns (a+1) l t)):=rfl
 rw [b7 hp]
 have hc:b8 .GtE (.int c) (.int 1000000000000000000) (S.set p (k8 ns (a+1) l t))=.ok (.bl (decide (1000000000000000000<=c))) (S.set p (k8 ns (a+1) l t)):=rfl
 rw [b7 hc,b7 (show asB _ _=_ from rfl)]
 have fin:∀ z:Bool,(z=true->1000000000000000000<=c)->∃ r a' l',a3h (.ref p) (.int m) (.int t) (.lst (ns.map D.int)) (.int c) z (S.set p (k8 ns (a+1) l t))=.ok (.int r) (S.set p (k8 ns a' l' t))/\0<=r/\r<m/\0<=a'/\0<=l':=λz hz=>by
  unfold a3h
  cases z with
  | true=>
   rw [if_pos rfl,b7 (T9 hm hm2 _),b7 (a8s h1 _),set_set,b7 (a0s hm _)]
   exact ⟨_,a+1,c / m,rfl,Int.emod_nonneg _ (Int.ne_of_gt hm),Int.emod_lt_of_pos _ hm,by omega,Int.ediv_nonneg (Int.le_trans (by decide) (hz rfl)) (Int.le_of_lt hm)⟩
  | false=>
   rw [if_neg Bool.false_ne_true]
   obtain ⟨r,e,r1,r2⟩:=a7v (c:=c) hm ht htb (S.set p (k8 ns (a+1) l t))
   exact ⟨r,a+1,l,e,r1,r2,by omega,hl⟩
 by_cases hz:(1000000000000000000:Int)<=c
 ·rw [decide_eq_true hz,if_pos rfl,b7 (c5v h1),b7 (a0n ns _)]
  have hc2:b8 .LtE (.int (a+1)) (.int (ns.length:Int)) (S.set p (k8 ns (a+1) l t))=.ok (.bl (decide (a+1<=(ns.length:Int)))) (S.set p (k8 ns (a+1) l t)):=rfl
  rw [b7 hc2,b7 (show asB _ _=_ from rfl)]
  exact fin _ λ_=>hz
 ·rw [decide_eq_false hz,if_neg Bool.false_ne_true]
  exact fin _ λz=>by cases z
theorem b3a {S:Sto} {p:Nat} {ns:List Int} {a l t m:Int} (h:S[p]?=some (k8 ns a l t)) (ha:0<=a) (hl:0<=l) (ht:0<=t) (htb:t<1000000) (hm:0<m) (hm2:m<1073741824) :
  ∃ r a' l',a8g (.ref p) (.int m) S=.ok (.int r) (S.set p (k8 ns a' l' (t+1)))/\0<=r/\r<m/\0<=a'/\0<=l':=by
 unfold a8g
 rw [b7 (c13 h),b7 (a17 _ _ S),b7 (c0l h _)]
 have h1:=b6g (o':=k8 ns a l (t+1)) h
 have hc:b8 .Gt (.int l) (.int 0) (S.set p (k8 ns a l (t+1)))=.ok (.bl (decide (0<l))) (S.set p (k8 ns a l (t+1))):=rfl
 rw [b7 (a7g h1),b7 hc,b7 (show asB _ _=_ from rfl)]
 by_cases hz:0<l
 ·rw [decide_eq_true hz,if_pos rfl,b7 (a7g h1),b7 (a0s hm _),b7 (a7g h1),b7 (T9 hm hm2 _),b7 (a8s h1 _),set_set]
  exact ⟨_,a,l / m,rfl,Int.emod_nonneg _ (Int.ne_of_gt hm),Int.emod_lt_of_pos _ hm,ha,Int.ediv_nonneg hl (Int.le_of_lt hm)⟩
 ·rw [decide_eq_false hz,if_neg Bool.false_ne_true,b7 (b99 h1),b7 (a0n ns _)]
  have hc2:b8 .Gt (.int (ns.length:Int)) (.int 0) (S.set p (k8 ns a l (t+1)))=.ok (.bl (decide (0<(ns.length:Int)))) (S.set p (k8 ns a l (t+1))):=rfl
  rw [b7 hc2,b7 (show asB _ _=_ from rfl)]
  have fin:∀ c:Int,∃ r a' l',L9 (.ref p) (.int m) (.int (t+1)) (.lst (ns.map D.int)) (.int c) (S.set p (k8 ns a l (t+1)))=.ok (.int r) (S.set p (k8 ns a' l' (t+1)))/\0<=r/\r<m/\0<=a'/\0<=l':=λc=>by
   obtain ⟨r,a',l',e,q⟩:=a4c (c:=c) h1 ha hl (by omega) (by omega) hm hm2
   rw [set_set] at e
   exact ⟨r,a',l',e,q⟩
  by_cases hn:0<(ns.length:Int)
  ·rw [decide_eq_true hn,if_pos rfl,b7 (c5v h1),b7 (a0n ns _),b7 (a0s hn _)]
   obtain ⟨z,e⟩:=c0v (ns:=ns) ha (by omega) (S.set p (k8 ns a l (t+1)))
   rw [b7 e]
   exact fin z
  ·rw [decide_eq_false hn,if_neg Bool.false_ne_true]
   exact fin 0
mutual
noncomputable def szP:PyData->Nat
 | .none=>4
 | .bool _=>5
 | .int _=>13
 | .str x=>(PyData.shown (.str x)).length
 | .list xs=>a9z xs+3
 | .tuple xs=>a9z xs+3
 | .dict _=>0
noncomputable def a9z:List PyData->Nat
 | []=>0
 | x :: xs=>szP x+2+a9z xs
end
noncomputable def SmI (i:Int):Prop:=-999999999999<=i/\i<=999999999999
mutual
noncomputable def Sm:PyData->Prop
 | .none=>True
 | .bool _=>True
 | .int i=>SmI i
 | .str _=>True
 | .list xs=>Sms xs
 | .tuple xs=>Sms xs
 | .dict _=>False
noncomputable def Sms:List PyData->Prop
 | []=>True
 | x :: xs=>Sm x/\Sms xs
end
mutual
theorem c1q:∀ p:PyData,Sm p->p.shown.length<=szP p
 | .none,_=>by decide
 | .bool b,_=>by cases b <;> decide
 | .int i,h=>PyData.shown_int_le2 h.1 h.2
 | .str x,_=>Nat.le_refl _
 | .list xs,h=>by
  have h1:=a7q xs h
  have h2:=listText_len_le (PyData.shownAll xs)
  have h3:=PyData.shownAll_length xs
  simp only [PyData.shown,szP]
  omega
 | .tuple xs,h=>by
  have h1:=a7q xs h
  have h2:=tupleText_len_le (PyData.shownAll xs)
  have h3:=PyData.shownAll_length xs
  simp only [PyData.shown,szP]
  omega
 | .dict _,h=>h.elim
theorem a7q:∀ xs:List PyData,Sms xs->((PyData.shownAll xs).map (·.length)).sum+2 * xs.length<=a9z xs
 | [],_=>by simp [PyData.shownAll,a9z]
 | x :: xs,h=>by
  have h1:=c1q x h.1
  have h2:=a7q xs h.2
  simp only [PyData.shownAll,a9z,List.map_cons,List.sum_cons,List.length_cons]
  omega
end
theorem a62 {i:Int} (h:i.natAbs<2 ^ 40):decide (i.natAbs.log2<1920)=true:=by
 refine decide_eq_true ?_
 by_cases z:i.natAbs=0
 ·rw [z];decide
 ·have:=(Nat.log2_lt z).mpr h
  omega
theorem c2n {i:Int} (h:SmI i):PyData.showable (.int i)=true:=a62 (by have:=h.1;have:=h.2;omega)
mutual
theorem a8p:∀ p:PyData,Sm p->p.showable=true
 | .none,_=>rfl
 | .bool b,_=>rfl
 | .int i,h=>c2n h
 | .str x,_=>rfl
 | .list xs,h=>by simp only [PyData.showable];exact a0z xs h
 | .tuple xs,h=>by simp only [PyData.showable];exact a0z xs h
 | .dict _,h=>h.elim
theorem a0z:∀ xs:List PyData,Sms xs->PyData.showableAll xs=true
 | [],_=>rfl
 | x :: xs,h=>by simp only [PyData.showableAll,a8p x h.1,a0z xs h.2,Bool.and_self]
end
mutual
theorem a9m:∀ p:PyData,Sm p->p.hasDict=false
 | .none,_=>rfl
 | .bool b,_=>rfl
 | .int i,h=>rfl
 | .str x,_=>rfl
 | .list xs,h=>by simp only [PyData.hasDict];exact Z6 xs h
 | .tuple xs,h=>by simp only [PyData.hasDict];exact Z6 xs h
 | .dict _,h=>h.elim
theorem Z6:∀ xs:List PyData,Sms xs->PyData.hasDictAll xs=false
 | [],_=>rfl
 | x :: xs,h=>by simp only [PyData.hasDictAll,a9m x h.1,Z6 xs h.2,Bool.or_self]
end
structure Nice (p:PyData):Prop where
 sm:Sm p
 dp:p.depth<=60
 sz:szP p<=4000
theorem Nice.len {p:PyData} (h:Nice p):p.shown.length<=4000:=Nat.le_trans (c1q p h.sm) h.sz
theorem Nice.shows {p:PyData} (h:Nice p):Shows p:=⟨a8p p h.sm,a9m p h.sm,h.dp,by have:=h.len;rw [sizeLine_eq];omega⟩
theorem d0k {S:Sto} {d:D} {p:PyData} (e:m3 64 S d=some p) (h:Nice p) (hd:∀ x,d=.str x->x.length<=4000):D2 S d=true:=by
 unfold D2
 rw [e]
 simp only [Bool.and_eq_true,decide_eq_true_eq]
 refine ⟨⟨h.shows,h.len⟩,?_⟩
 cases d <;> first | rfl | exact decide_eq_true (hd _ rfl)
theorem b4a {i:Int} (h:SmI i):Nice (.int i):=⟨h,by show PyData.depth (.int i)<=60;simp [PyData.depth],by show (13:Nat)<=4000;decide⟩
theorem b4t {S:Sto} {i:Int} (h:SmI i):D2 S (.int i)=true:=d0k (p:=.int i) rfl (b4a h) (λx e=>by cases e)
theorem c3j {c:Nat} {fs:List Str} {ds:List D} {S:Sto} (h1:ds.length=fs.length) (h2:ds.all (D2 S)=true):E4 c fs ds S=.ok (.ref S.length) (S++[.exc c (fs.zip ds)]):=by
 unfold E4
 rw [if_pos ⟨h1,h2⟩]
theorem d0q {S:Sto} {a:D} (h:D2 S a=true):[a].all (D2 S)=true:=by simp [h]
theorem i6 (b:Bool) (S:Sto):asB (.bl b) S=.ok b S:=rfl
noncomputable def a15 (o:Option (Option Value)) (x:String):Bool:=match o with
 | some (some (.builtin y))=>decide (y=x)
 | _=>false
theorem T5 {o:Option (Option Value)} {x:String} (h:a15 o x=true):o=some (some (.builtin x)):=by
 unfold a15 at h
 split at h
 ·rw [of_decide_eq_true h]
 ·cases h
noncomputable def isNo (o:Option (Option Value)):Bool:=match o with
 | some none=>true
 | _=>false
theorem Z1 {o:Option (Option Value)} (h:isNo o=true):o=some none:=by
 unfold isNo at h
 split at h
 ·rfl
 ·cases h
noncomputable def isB (o:Option Bool) (b:Bool):Bool:=match o with
 | some c=>c==b
 | none=>false
theorem V5 {o:Option Bool} {b:Bool} (h:isB o b=true):o=some b:=by
 unfold isB at h
 split at h
 ·rw [eq_of_beq h]
 ·cases h
noncomputable def xcB (K:PySem.W.Frag) (C:Addr):Bool:=
 a15 (PySem.W.findIn K (.ref C) "__getattribute__") "BaseException.__getattribute__" && (isNo (PySem.W.findIn K (.ref C) "__getattr__")&&(isB (PySem.W.mroIn K C (.type "BaseException")) true&&(isB (PySem.W.mroIn K C (.type "object")) true &&
 (PySem.W.hasDictIn K C&&(a15 (PySem.W.findIn K (.ref C) "__class__") "object.__class__" && (a15 (PySem.W.specialIn K (.builtin "object.__class__") "__get__") "getset_descriptor.__get__" && (isB (PySem.W.takesIn K (.builtin "object.__class__")) true &&
 (X2 K C&&((PySem.W.clsIn K C).any (λcd=>B8 cd.mro)&&(a15 (PySem.W.findIn K (.ref C) "__setattr__") "object.__setattr__" && PySem.W.keepIn K (.ref C)))))))))))
theorem a66 {K:PySem.W.Frag} {C:Addr} (h:xcB K C=true):XC K C:=by
 simp only [xcB,Bool.and_eq_true] at h
 obtain ⟨h1,h2,h3,h4,h5,h6,h7,h8,h9,h10,h11,h12⟩:=h
 exact ⟨⟨T5 h1,Z1 h2,V5 h3,V5 h4,h5,T5 h6,T5 h7,V5 h8⟩,h9,h10,T5 h11,h12⟩
noncomputable def a0b (cs:List Addr) (junk:Addr) (c:Nat):Addr:=cs.getD c junk
structure RowB (K:PySem.W.Frag) (Γ:Gm) (cs:List Addr) (junk:Addr):Prop where
 xc:cs.all (xcB K)=true
 jk:X2 K junk=false
 sub:((List.range cs.length).all λc=>(List.range cs.length).all λc0=>isB (PySem.W.kitOne K (.ref (a0b cs junk c)) (.ref (a0b cs junk c0))) (Γ.sub c c0))=true
 sV:(cs.all λC=>isB (PySem.W.kitOne K (.ref C) (.type "ValueError")) true)=true
 sT:(cs.all λC=>tys.all λt=>isB (PySem.W.kitOne K (.ref C) (.type t)) false)=true
 fl:(Γ.flds.all λg=>cs.all λC=>isNo (PySem.W.findIn K (.ref C) g))=true
 bl:(bnames.all λx=>(Γ.gl.lookup x).isSome||isNo (PySem.W.nsIn K mainGlobals x))=true
theorem c8d {K:PySem.W.Frag} {cs:List Addr} {junk:Addr} (jk:X2 K junk=false) {c:Nat} (h:XC K (a0b cs junk c)):c<cs.length/\a0b cs junk c∈cs:=by
 by_cases hc:c<cs.length
 ·refine ⟨hc,?_⟩
  unfold a0b
  rw [List.getD_eq_getElem?_getD,List.getElem?_eq_getElem hc]
  exact List.getElem_mem hc
 ·have e:a0b cs junk c=junk:=by
   unfold a0b
   rw [List.getD_eq_getElem?_getD,List.getElem?_eq_none (Nat.le_of_not_lt hc)];rfl
  rw [e] at h
  have:=h.ex
  rw [jk] at this
  cases this
theorem RowB.st {T:Tx} {Γ:Gm} {cs:List Addr} {junk:Addr} {h:Heap} (B:RowB T.K Γ cs junk) (X:T.K.In h) (G:h.Ns mainGlobals T.mg) (hc:T.cl=a0b cs junk) (hv:∀ x d,Γ.gl.lookup x=some (.val d)->∃ u v,T.mg x=some u/\RelV v u/\∀ μ H,RD T.K μ H d v)
  (he:∀ x c fs,Γ.gl.lookup x=some (.err c fs)->c<cs.length/\ErrAt T x c fs/\∀ g∈fs,g∈Γ.flds) (hd:∀ x kvs,Γ.gl.lookup x=some (.dct kvs)->b33 T x kvs):TxSt T Γ:=by
 have mem:∀ c,XC T.K (T.cl c)->c<cs.length/\T.cl c∈cs:=λc xc=>by rw [hc] at xc ⊢;exact c8d B.jk xc
 have nf:∀ g∈Γ.flds,∀ c,XC T.K (T.cl c)->A9 T.K (T.cl c) g:=λg hg c xc=>by
  have:=(List.all_eq_true.mp B.fl) g hg
  exact Z1 ((List.all_eq_true.mp this) _ (mem c xc).2)
 refine ⟨λx hx hn=>?_,hv,λx c fs e=>?_,λx c c0 fs e xc=>?_,λc xc=>?_,λc xc t ht=>?_,nf,hd⟩
 ·have:=(List.all_eq_true.mp B.bl) x hx
  rw [hn] at this
  exact PySem.W.mg_none_of X G (Z1 this)
 ·obtain ⟨h1,h2,h3⟩:=he x c fs e
  exact ⟨h2,λg hg=>nf g (h3 g hg) c h2.xc⟩
 ·obtain ⟨h1,h2,h3⟩:=he x c0 fs e
  have a:=(List.all_eq_true.mp B.sub) c (List.mem_range.mpr (mem c xc).1)
  have b:=(List.all_eq_true.mp a) c0 (List.mem_range.mpr h1)
  rw [hc]
  exact V5 b
 ·exact V5 ((List.all_eq_true.mp B.sV) _ (mem c xc).2)
 ·have a:=(List.all_eq_true.mp B.sT) _ (mem c xc).2
  exact V5 ((List.all_eq_true.mp a) t ht)
noncomputable def a3m (K:PySem.W.Frag):Sp:=λvs H Q _=>∃ (a:Addr) (ns:List Int),vs=[.ref a]/\SqL K H a (ns.map V.int)/\∀ H',Q (.bl true) H'
theorem b1f {K:PySem.W.Frag} {cl:Nat->Addr} {run:List D->M D} (hr:∀ ns:List Int,∃ S',run [.scr (ns.map D.int)] []=.ok (.bl true) S'):∀ vs H Q E,a3m K vs H Q E->spD K cl 1 run vs H Q E:=by
 rintro vs H Q E ⟨a,ns,rfl,hS,q⟩
 obtain ⟨S',e⟩:=hr ns
 refine ⟨rfl,⟨[],[]⟩,[],[.scr (ns.map D.int)],.cons (.scr ?_ (RDs.ints ns)) .nil,⟨rfl,by simp,λn o a e=>by simp at e,λa m=>by simp at m⟩,?_⟩
 ·rcases hS with h | h
  ·exact .inl ⟨h,by simp,by simp⟩
  ·exact .inr h
 ·rw [e]
  intro μ' H' l r v rv
  cases rv;exact q H'
structure GF (K:PySem.W.Frag) (x:Str) (st:Stmt) (g:Addr):Prop where
 a:PySem.W.nsIn K mainGlobals x=some (some (.ref g))
 f:∃ fd,Fun K x x st g fd
theorem gf_mk {K:PySem.W.Frag} {x:Str} {st:Stmt} {g:Addr} {oc:Value} {od an:Option Addr} {osl:Array (Option Value)} {kV doc pm cdv ct:Value} (a:PySem.W.nsIn K mainGlobals x=some (some (.ref g))) (l:K.lookup g=some ⟨oc,od,.func (PySem.W.fnOf x x (w8 st) (m4 st) (c9 st) .none kV doc pm an cdv ct),osl⟩) (c:PySem.W.codeIn K cdv x=true) (k:PySem.W.keepIn K (.ref g)=true):GF K x st g:=⟨a,_,a09 l c k⟩
theorem fe {T:Tx} {h:Heap} (X:T.K.In h) (G:h.Ns mainGlobals T.mg) {x:Str} {st:Stmt} {g:Addr} {m:List Str} {Tb:List Fd} {i n:Nat} (d:GF T.K x st g) (sc:a22 (j6 st m)=true) (hb:∀ (kV doc pm:Value) (an:Option Addr) (cdv ct:Value) (us:List Value),us.length=(j6 st m).ps.length->bindArgs (PySem.W.fnOf x x (w8 st) (m4 st) (c9 st) .none kV doc pm an cdv ct) ⟨us,[]⟩=pure ((j6 st m).ps.zip us)) (hT:Tb[i]?=some (j6 st m)) (hn:(j6 st m).ps.length=n):∃ fd,Tb[i]?=some fd/\fd.ps.length=n/\FnTx T x fd:=by
 obtain ⟨fd,F⟩:=d.f
 exact ⟨_,hT,hn,⟨g,_,_,st,F,rfl,rfl,a0q sc,F.binds hb,PySem.W.mg_of X G d.a⟩⟩
noncomputable def c59 (T:Tx) (Tb:List Fd):List (Str×G)->Prop
 | []=>True
 | (x,.fn i n) :: l=>(∃ fd,Tb[i]?=some fd/\fd.ps.length=n/\FnTx T x fd)/\c59 T Tb l
 | _ :: l=>c59 T Tb l
theorem c9p {T:Tx} {Γ:Gm} {Tb:List Fd} (h:c59 T Tb Γ.gl):b29 T Γ Tb:=λx i n e=>by
 have m:=L2.mem_of_lookup e
 generalize Γ.gl=l at h m
 induction l with
 | nil=>cases m
 | cons y l ih=>
  obtain ⟨z,g⟩:=y
  rcases List.mem_cons.mp m with q | q
  ·cases q;exact h.1
  ·refine ih ?_ q
   cases g with
   | fn j k=>exact h.2
   | _=>exact h
theorem T3 {src:Src} {t:D->M Bool} {f:D->M D} {n:Nat} (I:Nat->Sto->List D->Prop) (hend:∀ S es,I n S es->src n S=some none)
  (step:∀ i S es,i<n->I i S es->∃ d b S1,src i S=some (some d)/\t d S=.ok b S1/\(if b=true then ∃ y S2,f d S1=.ok y S2/\es.length<sizeLine/\I (i+1) S2 (es++[y]) else I (i+1) S1 es)) :
  ∀ (k i:Nat) (S:Sto) (es:List D),k+i=n->I i S es->∃ es' S',i4 src t f (k+1) i es S=.ok es' S'/\I n S' es'
 | 0,i,S,es,hk,h=>by
  have:i=n:=by omega
  subst this
  refine ⟨es,S,?_,h⟩
  simp only [i4,hend S es h]
 | k+1,i,S,es,hk,h=>by
  obtain ⟨d,b,S1,e1,e2,h2⟩:=step i S es (by omega) h
  have un:i4 src t f (k+1+1) i es S=bind (t d) (λb=>if b=true then bind (f d) (λy=>if es.length<sizeLine then i4 src t f (k+1) (i+1) (es++[y]) else bad) else i4 src t f (k+1) (i+1) es) S:=by
   conv=>lhs;unfold i4
   simp only [e1]
  rw [un,b7 e2]
  cases b with
  | true=>
   rw [if_pos rfl] at h2 ⊢
   obtain ⟨y,S2,e3,hl,h3⟩:=h2
   rw [b7 e3,if_pos hl]
   exact T3 I hend step k (i+1) S2 _ (by omega) h3
  | false=>
   rw [if_neg Bool.false_ne_true] at h2 ⊢
   exact T3 I hend step k (i+1) S1 _ (by omega) h2
theorem a7z {n:Nat} {lo:Int} {f:D->M D} {g:Nat->D} {S:Sto} (hl:n<sizeLine) (h:∀ i,i<n->f (.int (lo+i)) S=.ok (g i) S):i4 (a1v lo n) (λ_=>ret true) f (n+1) 0 [] S=.ok ((List.range n).map g) S:=by
 obtain ⟨es,S',e,e1,e2⟩:=T3 (src:=a1v lo n) (t:=λ_=>ret true) (f:=f) (n:=n) (λi S' es=>S'=S/\es=(List.range i).map g) (λS es _=>by show some (if n<n then some (D.int (lo+n)) else none)=some none;rw [if_neg (Nat.lt_irrefl _)])
  (λi S' es hi ⟨h1,h2⟩=>by
   subst h1 h2
   refine ⟨.int (lo+i),true,S',?_,rfl,?_⟩
   ·show some (if i<n then some (D.int (lo+i)) else none)=_
    rw [if_pos hi]
   ·rw [if_pos rfl]
    refine ⟨g i,S',h _ hi,?_,rfl,?_⟩
    ·rw [List.length_map,List.length_range];omega
    ·rw [List.range_succ,List.map_append];rfl) n 0 S [] (by omega) ⟨rfl,rfl⟩
 rw [e]
 subst e1 e2
 rfl
noncomputable def Ok {α:Type} (m:M α) (S:Sto) (Q:α->Sto->Prop):Prop:=∃ a S',m S=.ok a S'/\Q a S'
section
variable {α β:Type} {S S1:Sto} {m m':M α} {k:α->M β} {a:α} {Q Q':α->Sto->Prop} {P:β->Sto->Prop}
theorem Ok.ret (h:Q a S):Ok (ret a) S Q:=⟨a,S,rfl,h⟩
theorem Ok.of (e:m S=.ok a S1) (h:Q a S1):Ok m S Q:=⟨a,S1,e,h⟩
theorem Ok.bind (h:Ok m S λa S1=>Ok (k a) S1 P):Ok (L3.bind m k) S P:=by
 obtain ⟨a,S1,e,b,S2,e2,q⟩:=h
 exact ⟨b,S2,by rw [b7 e];exact e2,q⟩
theorem Ok.eq (e:m S=.ok a S1) (h:Ok (k a) S1 P):Ok (L3.bind m k) S P:=Ok.bind ⟨a,S1,e,h⟩
theorem Ok.mono (h:Ok m S Q) (i:∀ a S1,Q a S1->Q' a S1):Ok m S Q':=by
 obtain ⟨a,S1,e,q⟩:=h
 exact ⟨a,S1,e,i _ _ q⟩
theorem Ok.cg (e:m=m') (h:Ok m' S Q):Ok m S Q:=e▸h
theorem Ok.cgS (e:m S=m' S) (h:Ok m' S Q):Ok m S Q:=by
 obtain ⟨a,S1,e1,q⟩:=h
 exact ⟨a,S1,by rw [e];exact e1,q⟩
theorem Ok.ite {c:Prop} [Decidable c] {m1 m2:M α} (h1:c->Ok m1 S Q) (h2:¬ c->Ok m2 S Q):Ok (if c then m1 else m2) S Q:=by
 by_cases h:c
 ·rw [if_pos h];exact h1 h
 ·rw [if_neg h];exact h2 h
end
theorem Ok.comp {src:Src} {t:D->M Bool} {f:D->M D} {n:Nat} (I:Nat->Sto->List D->Prop) (hend:∀ S es,I n S es->src n S=some none)
  (step:∀ i S es,i<n->I i S es->∃ d,src i S=some (some d)/\Ok (t d) S λb S1=>if b=true then Ok (f d) S1 λy S2=>es.length<sizeLine/\I (i+1) S2 (es++[y]) else I (i+1) S1 es) {S:Sto} (h:I 0 S []) :
  Ok (i4 src t f (n+1) 0 []) S λes S'=>I n S' es:=by
 obtain ⟨es,S',e,q⟩:=T3 (src:=src) (t:=t) (f:=f) (n:=n) I hend (λi S es hi h=>by
  obtain ⟨d,e1,b,S1,e2,q⟩:=step i S es hi h
  refine ⟨d,b,S1,e1,e2,?_⟩
  cases b with
  | true=>
   rw [if_pos rfl] at q ⊢
   obtain ⟨y,S2,e3,q1,q2⟩:=q
   exact ⟨y,S2,e3,q1,q2⟩
  | false=>
   rw [if_neg Bool.false_ne_true] at q ⊢
   exact q) n 0 S [] (by omega) h
 exact ⟨es,S',e,q⟩
noncomputable def FlI (I:L3.Env->Sto->Prop) (J:L3.Env->Sto->Prop) (R:D->Sto->Prop) (fl:Fl) (S:Sto):Prop:=match fl with
 | .nx ρ=>I ρ S
 | .ct ρ=>I ρ S
 | .bk ρ=>J ρ S
 | .rt d=>R d S
theorem Ok.for_ {src:Src} {tg:D->L3.Env->Option L3.Env} {body:L3.Env->M Fl} {n:Nat} (I:Nat->L3.Env->Sto->Prop) (J:L3.Env->Sto->Prop) (R:D->Sto->Prop) (hend:∀ ρ S,I n ρ S->src n S=some none)
  (step:∀ i ρ S,i<n->I i ρ S->∃ d ρ1,src i S=some (some d)/\tg d ρ=some ρ1/\Ok (body ρ1) S (FlI (I (i+1)) J R)) :
  ∀ (k i:Nat) (ρ:L3.Env) (S:Sto),k+i=n->I i ρ S->Ok (y8 src tg body (k+1) i ρ) S λfl S'=>match fl with
   | .nx ρ'=>I n ρ' S'\/J ρ' S'
   | .rt d=>R d S'
   | _=>False
 | 0,i,ρ,S,hk,h=>by
  have:i=n:=by omega
  subst this
  exact ⟨.nx ρ,S,by simp only [y8,hend ρ S h],.inl h⟩
 | k+1,i,ρ,S,hk,h=>by
  obtain ⟨d,ρ1,e1,e2,h2⟩:=step i ρ S (by omega) h
  have un:y8 src tg body (k+1+1) i ρ S=L3.bind (body ρ1) (λfl=>match fl with
    | .nx ρ2=>y8 src tg body (k+1) (i+1) ρ2
    | .ct ρ2=>y8 src tg body (k+1) (i+1) ρ2
    | .bk ρ2=>L3.ret (.nx ρ2)
    | .rt d=>L3.ret (.rt d)) S:=by
   conv=>lhs;unfold y8
   simp only [e1,e2]
   all_goals rfl
  refine Ok.cgS un (Ok.bind (h2.mono λfl S1 q=>?_))
  cases fl with
  | nx ρ2=>exact Ok.for_ I J R hend step k (i+1) ρ2 S1 (by omega) q
  | ct ρ2=>exact Ok.for_ I J R hend step k (i+1) ρ2 S1 (by omega) q
  | bk ρ2=>exact Ok.ret (.inr q)
  | rt d=>exact Ok.ret q
theorem i7 {α:Type} {l:List α} {h g:α->D} {p:α->Bool} {t:D->M Bool} {f:D->M D} {S:Sto} (hl:l.length<sizeLine) (ht:∀ a∈l,t (h a) S=.ok (p a) S) (hf:∀ a∈l,p a=true->f (h a) S=.ok (g a) S):i4 (N7 (l.map h)) t f (l.length+1) 0 [] S=.ok ((l.filter p).map g) S:=by
 obtain ⟨es,S',e,e1,e2⟩:=Ok.comp (src:=N7 (l.map h)) (t:=t) (f:=f) (n:=l.length) (λi S' es=>S'=S/\es=((l.take i).filter p).map g) (λS es _=>by show some (l.map h)[l.length]?=some none;rw [List.getElem?_eq_none (by simp)])
  (λi S' es hi ⟨h1,h2⟩=>by
   subst h1 h2
   refine ⟨h l[i],?_,p l[i],S',ht _ (List.getElem_mem hi),?_⟩
   ·show some (l.map h)[i]?=some (some (h l[i]))
    rw [List.getElem?_map,List.getElem?_eq_getElem hi];rfl
   ·have ta:l.take (i+1)=l.take i++[l[i]]:=List.take_succ_eq_append_getElem hi
    cases hp:p l[i] with
    | true=>
     dsimp only
     rw [if_pos rfl]
     refine ⟨g l[i],S',hf _ (List.getElem_mem hi) hp,?_,rfl,?_⟩
     ·rw [List.length_map]
      have:=List.length_filter_le p (l.take i)
      have:=List.length_take_le i l
      omega
     ·rw [ta,List.filter_append,List.map_append,List.filter_cons_of_pos hp];rfl
    | false=>
     dsimp only
     rw [if_neg Bool.false_ne_true]
     refine ⟨rfl,?_⟩
     rw [ta,List.filter_append,List.filter_cons_of_neg (by rw [hp];exact Bool.false_ne_true),List.filter_nil,List.append_nil]) (S:=S) ⟨rfl,rfl⟩
 rw [e]
 subst e1 e2
 rw [List.take_length]
noncomputable def Asc (x:Str):Prop:=∀ c∈x.cps.toList,c<128
noncomputable def a6y (j:Nat):Nat:=1000000000000000000000000000000000000000+j
mutual
noncomputable def Pln (j:Nat):D->Prop
 | .non=>True
 | .bl _=>True
 | .int i=>i.natAbs<=a6y j
 | .str x=>x.length<=45+j/\Asc x
 | .tup ds=>Plns j ds
 | .lst ds=>Plns j ds
 | .scr _=>False
 | .ref _=>False
noncomputable def Plns (j:Nat):List D->Prop
 | []=>True
 | d :: ds=>Pln j d/\Plns j ds
end
mutual
noncomputable def py:D->PyData
 | .non=>.none
 | .bl b=>.bool b
 | .int i=>.int i
 | .str x=>.str x
 | .tup ds=>.tuple (pys ds)
 | .lst ds=>.list (pys ds)
 | .scr _=>.none
 | .ref _=>.none
noncomputable def pys:List D->List PyData
 | []=>[]
 | d :: ds=>py d :: pys ds
end
mutual
noncomputable def dp:D->Nat
 | .tup ds=>dps ds+1
 | .lst ds=>dps ds+1
 | _=>0
noncomputable def dps:List D->Nat
 | []=>0
 | d :: ds=>max (dp d) (dps ds)
end
mutual
noncomputable def sz:D->Nat
 | .int _=>60
 | .str x=>10 * x.length+2
 | .tup ds=>szs ds+3
 | .lst ds=>szs ds+3
 | _=>5
noncomputable def szs:List D->Nat
 | []=>0
 | d :: ds=>sz d+2+szs ds
end
theorem Plns.of {j:Nat}:∀ {ds:List D},(∀ d∈ds,Pln j d)->Plns j ds
 | [],_=>trivial
 | d :: ds,h=>⟨h d (List.mem_cons_self ..),Plns.of λe he=>h e (List.mem_cons_of_mem _ he)⟩
mutual
theorem Pln.up {j:Nat}:∀ (d:D),Pln j d->Pln (j+1) d
 | .non,_=>trivial
 | .bl _,_=>trivial
 | .int i,h=>by have h:i.natAbs<=a6y j:=h;show i.natAbs<=a6y (j+1);unfold a6y at *;omega
 | .str x,h=>⟨by have:=h.1;omega,h.2⟩
 | .tup ds,h=>Plns.up ds h
 | .lst ds,h=>Plns.up ds h
 | .scr _,h=>h.elim
 | .ref _,h=>h.elim
theorem Plns.up {j:Nat}:∀ (ds:List D),Plns j ds->Plns (j+1) ds
 | [],_=>trivial
 | d :: ds,h=>⟨Pln.up d h.1,Plns.up ds h.2⟩
end
theorem b1u {n:Nat}:∀ {ds:List D},(∀ d∈ds,dp d<=n)->dps ds<=n
 | [],_=>Nat.zero_le _
 | d :: ds,h=>by
  have:=h d (List.mem_cons_self ..)
  have:=b1u (ds:=ds) λe he=>h e (List.mem_cons_of_mem _ he)
  show max (dp d) (dps ds)<=n;omega
mutual
theorem a3v {j:Nat} (S:Sto):∀ (d:D) (n:Nat),Pln j d->dp d<n->m3 n S d=some (py d)
 | .non,n+1,_,_=>rfl
 | .bl _,n+1,_,_=>rfl
 | .int _,n+1,_,_=>rfl
 | .str _,n+1,_,_=>rfl
 | .tup ds,n+1,h,hn=>by
  show (k9 (m3 n S) ds).map PyData.tuple=_
  rw [a04 S ds n h (by have:dps ds+1<n+1:=hn;omega)];rfl
 | .lst ds,n+1,h,hn=>by
  show (k9 (m3 n S) ds).map PyData.list=_
  rw [a04 S ds n h (by have:dps ds+1<n+1:=hn;omega)];rfl
 | .scr _,_,h,_=>h.elim
 | .ref _,_,h,_=>h.elim
 | .non,0,_,h=>by omega
 | .bl _,0,_,h=>by omega
 | .int _,0,_,h=>by omega
 | .str _,0,_,h=>by omega
 | .tup _,0,_,h=>by omega
 | .lst _,0,_,h=>by omega
theorem a04 {j:Nat} (S:Sto):∀ (ds:List D) (n:Nat),Plns j ds->dps ds<n->k9 (m3 n S) ds=some (pys ds)
 | [],n,_,_=>rfl
 | d :: ds,n,h,hn=>by
  have hn:max (dp d) (dps ds)<n:=hn
  simp only [k9,a3v S d n h.1 (by omega),a04 S ds n h.2 (by omega)]
  rfl
end
theorem b5x {x:Str} (h:Asc x):PyData.strOk x=true:=by
 unfold PyData.strOk
 rw [Array.all_eq_true']
 intro c hc
 have:=h c (by simpa using hc)
 exact decide_eq_true (by omega)
mutual
theorem a7a {j:Nat}:∀ d:D,Pln j d->(py d).canLay0=true
 | .non,_=>rfl
 | .bl _,_=>rfl
 | .int _,_=>rfl
 | .str x,h=>by show PyData.canLay0 (.str x)=true;simp only [PyData.canLay0];exact b5x h.2
 | .tup ds,h=>by show PyData.canLay0 (.tuple (pys ds))=true;simp only [PyData.canLay0];exact a2u ds h
 | .lst ds,h=>by show PyData.canLay0 (.list (pys ds))=true;simp only [PyData.canLay0];exact a2u ds h
 | .scr _,h=>h.elim
 | .ref _,h=>h.elim
theorem a2u {j:Nat}:∀ ds:List D,Plns j ds->PyData.canLayAll0 (pys ds)=true
 | [],_=>rfl
 | d :: ds,h=>by show PyData.canLayAll0 (py d :: pys ds)=true;simp only [PyData.canLayAll0,a7a d h.1,a2u ds h.2,Bool.and_self]
end
mutual
theorem a37:∀ d:D,(py d).depth<=dp d
 | .non=>by show PyData.depth .none<=_;simp [PyData.depth]
 | .bl b=>by show PyData.depth (.bool b)<=_;simp [PyData.depth]
 | .int i=>by show PyData.depth (.int i)<=_;simp [PyData.depth]
 | .str x=>by show PyData.depth (.str x)<=_;simp [PyData.depth]
 | .tup ds=>by show PyData.depth (.tuple (pys ds))<=dps ds+1;simp only [PyData.depth];have:=V2 ds;omega
 | .lst ds=>by show PyData.depth (.list (pys ds))<=dps ds+1;simp only [PyData.depth];have:=V2 ds;omega
 | .scr _=>by show PyData.depth .none<=_;simp [PyData.depth]
 | .ref _=>by show PyData.depth .none<=_;simp [PyData.depth]
theorem V2:∀ ds:List D,PyData.depthAll (pys ds)<=dps ds
 | []=>by show PyData.depthAll []<=0;simp [PyData.depthAll]
 | d :: ds=>by
  have:=a37 d
  have:=V2 ds
  show PyData.depthAll (py d :: pys ds)<=max (dp d) (dps ds)
  simp only [PyData.depthAll]
  omega
end
structure Any (j N:Nat) (d:D):Prop where
 pl:Pln j d
 dp:dp d<=3+j
 sz:sz d<=N
noncomputable def inW (ws:List Str):D->Bool
 | .str x=>decide (x∈ws)
 | _=>false
theorem b80 (ws:List Str) (x:Str):((ws.map PyData.str).any λy=>PyData.eqv y (.str x))=decide (x∈ws):=by
 induction ws with
 | nil=>rfl
 | cons w ws ih=>
  rw [List.map_cons,List.any_cons,ih]
  rw [Bool.eq_iff_iff,Bool.or_eq_true,decide_eq_true_eq,decide_eq_true_eq,List.mem_cons]
  have:PyData.eqv (.str w) (.str x)=(w==x):=by simp only [PyData.eqv]
  rw [this]
  constructor
  ·rintro (a | a)
   ·exact .inl (eq_of_beq a).symm
   ·exact .inr a
  ·rintro (a | a)
   ·exact .inl (by rw [a];exact beq_self_eq_true _)
   ·exact .inr a
theorem b63 {p:PyData} (hp:∀ x,p≠.str x) (ws:List Str):((ws.map PyData.str).any λy=>PyData.eqv y p)=false:=by
 induction ws with
 | nil=>rfl
 | cons w ws ih=>
  rw [List.map_cons,List.any_cons,ih,Bool.or_false]
  cases p <;> first | (simp only [PyData.eqv];done) | exact absurd rfl (hp _)
theorem c72 {j:Nat} {d:D} (h:Pln j d) (ws:List Str):((ws.map PyData.str).any λy=>PyData.eqv y (py d))=inW ws d:=by
 cases d with
 | str x=>exact b80 ws x
 | scr _=>exact h.elim
 | ref _=>exact h.elim
 | _=>exact b63 (λx e=>by cases e) ws
theorem V3 (n:Nat) (S:Sto):∀ ws:List Str,k9 (m3 (n+1) S) (ws.map D.str)=some (ws.map PyData.str)
 | []=>rfl
 | w :: ws=>by
  have e:m3 (n+1) S (.str w)=some (.str w):=rfl
  simp only [List.map_cons,k9,e,V3 n S ws]
theorem a0w:∀ ws:List Str,(∀ w∈ws,Asc w)->PyData.canLayAll0 (ws.map PyData.str)=true
 | [],_=>rfl
 | w :: ws,h=>by simp only [List.map_cons,PyData.canLayAll0,PyData.canLay0,b5x (h w (List.mem_cons_self ..)),a0w ws λv hv=>h v (List.mem_cons_of_mem _ hv),Bool.and_self]
theorem b2n {j N:Nat} {d:D} (h:Any j N d) (hj:j<=40) {ws:List Str} (hw:∀ w∈ws,Asc w) (S:Sto):b8 .In d (.tup (ws.map D.str)) S=.ok (.bl (inW ws d)) S:=by
 show inD false d (.tup (ws.map D.str)) S=_
 unfold inD
 have e:m3 64 S (.tup (ws.map D.str))=some (.tuple (ws.map PyData.str)):=by
  show (k9 (m3 63 S) (ws.map D.str)).map PyData.tuple=_
  rw [V3 62 S ws];rfl
 rw [a3v S d 64 h.pl (by have:=h.dp;omega),e]
 show b08 false (py d) (ws.map PyData.str) S=_
 unfold b08
 have hd:=a37 d
 rw [if_pos ⟨a7a d h.pl,a0w ws hw,by have:=h.dp;omega⟩,c72 h.pl]
 rfl
theorem a3n:∀ bs:List Bool,K2 (bs.map D.bl)=some bs
 | []=>rfl
 | b :: bs=>by simp only [List.map_cons,K2,a3n bs,Option.map_some]
theorem any_ok (bs:List Bool) (S:Sto):b3p (.lst (bs.map D.bl)) S=.ok (.bl (bs.any id)) S:=by
 show bind (lstOf (.lst (bs.map D.bl))) _ S=_
 rw [b7 (show lstOf (.lst (bs.map D.bl)) S=.ok (bs.map D.bl) S from rfl),a3n]
 rfl
theorem all_ok (bs:List Bool) (S:Sto):a3g (.lst (bs.map D.bl)) S=.ok (.bl (bs.all id)) S:=by
 show bind (lstOf (.lst (bs.map D.bl))) _ S=_
 rw [b7 (show lstOf (.lst (bs.map D.bl)) S=.ok (bs.map D.bl) S from rfl),a3n]
 rfl
mutual
noncomputable def plB:D->Bool
 | .non=>true
 | .bl _=>true
 | .int i=>decide (i.natAbs<=a6y 0)
 | .str x=>decide (x.length<=45)&&x.cps.toList.all (· < 128)
 | .tup ds=>b5e ds
 | .lst ds=>b5e ds
 | .scr _=>false
 | .ref _=>false
noncomputable def b5e:List D->Bool
 | []=>true
 | d :: ds=>plB d&&b5e ds
end
mutual
theorem b5f:∀ d:D,plB d=true->Pln 0 d
 | .non,_=>trivial
 | .bl _,_=>trivial
 | .int i,h=>by
  have h:decide (i.natAbs<=a6y 0)=true:=h
  exact (of_decide_eq_true h:i.natAbs<=a6y 0)
 | .str x,h=>by
  have h:(decide (x.length<=45)&&x.cps.toList.all (· < 128))=true:=h
  rw [Bool.and_eq_true,decide_eq_true_eq,List.all_eq_true] at h
  exact ⟨h.1,λc hc=>of_decide_eq_true (h.2 c hc)⟩
 | .tup ds,h=>a3u ds h
 | .lst ds,h=>a3u ds h
 | .scr _,h=>Bool.noConfusion h
 | .ref _,h=>Bool.noConfusion h
theorem a3u:∀ ds:List D,b5e ds=true->Plns 0 ds
 | [],_=>trivial
 | d :: ds,h=>by
  have h:(plB d&&b5e ds)=true:=h
  rw [Bool.and_eq_true] at h
  exact ⟨b5f d h.1,a3u ds h.2⟩
end
noncomputable def smB (n N:Nat) (d:D):Bool:=plB d&&decide (dp d<=n)&&decide (sz d<=N)
theorem a7c {n N:Nat} {d:D} (h:smB n N d=true):Pln 0 d/\dp d<=n/\sz d<=N:=by
 unfold smB at h
 rw [Bool.and_eq_true,Bool.and_eq_true,decide_eq_true_eq,decide_eq_true_eq] at h
 exact ⟨b5f d h.1.1,h.1.2,h.2⟩
theorem Pln.ups {j:Nat} {d:D} (h:Pln 0 d):Pln j d:=by
 induction j with
 | zero=>exact h
 | succ j ih=>exact ih.up
theorem a30 (n:Nat) (S:Sto):∀ ns:List Int,k9 (m3 (n+1) S) (ns.map D.int)=some (ns.map PyData.int)
 | []=>rfl
 | b :: bs=>by
  have e:m3 (n+1) S (.int b)=some (.int b):=rfl
  simp only [List.map_cons,k9,e,a30 n S bs]
theorem a7s:∀ ns:List Int,PyData.canLayAll0 (ns.map PyData.int)=true
 | []=>rfl
 | b :: bs=>by simp only [List.map_cons,PyData.canLayAll0,PyData.canLay0,a7s bs,Bool.and_self]
theorem a0f {ds:List D} {i:Nat} (h:i<=ds.length):J0 ds none (some (i:Int))=ds.take i:=by
 have e:HT.sIx ds.length ds.length (some (i:Int))=i:=by
  show (if (i:Int)<0 then ((i:Int)+(ds.length:Int)).toNat else min (i:Int).toNat ds.length)=i
  rw [if_neg (by omega)]
  simp;omega
 unfold J0
 rw [e,HT.sIx_none]
 simp
theorem a40 {ds:List D} {i:Nat} (h:i<=ds.length):J0 ds (some (i:Int)) none=ds.drop i:=by
 have e:HT.sIx ds.length 0 (some (i:Int))=i:=by
  show (if (i:Int)<0 then ((i:Int)+(ds.length:Int)).toNat else min (i:Int).toNat ds.length)=i
  rw [if_neg (by omega)]
  simp;omega
 unfold J0
 rw [e,HT.sIx_none]
 rw [List.take_of_length_le (by simp)]
theorem cat_tup {xs ys:List D} {S:Sto} (h:xs.length+ys.length<=sizeLine):f9 (.tup xs) (.tup ys) S=.ok (.tup (xs++ys)) S:=by
 show (if xs.length+ys.length<=sizeLine then ret (D.tup (xs++ys)) else bad) S=_
 rw [if_pos h];rfl
theorem u6 (ds:List D) (S:Sto):j8 (.tup ds) S=.ok (.int ds.length) S:=rfl
theorem T8 (ds:List D) (S:Sto):y9 (.tup ds) S=.ok (N7 ds,ds.length+1) S:=rfl
theorem v9 {n:Nat} (h:n<1000) (S:Sto):u5 [.int (n:Int)] S=.ok (a1v 0 n,n+1) S:=by
 unfold u5
 have hn:(n:Int)<1000:=by omega
 have h0:(0:Int)<=n:=by omega
 have c:-(2 ^ 62)<=(n:Int)/\(n:Int)<2 ^ 62:=⟨Int.le_trans (by decide) h0,Int.lt_trans hn (by decide)⟩
 simp only [if_pos c,Int.toNat_natCast]
 rfl
theorem k7 {ds:List D} {i:Nat} {d:D} (S:Sto) (h:ds[i]?=some d):ixD (.tup ds) (.int (i:Int)) S=.ok d S:=by
 show a3l (atI ds (i:Int)) S=_
 rw [a29 h];rfl
theorem b3l {ds:List D} {i:Nat} {d:D} (S:Sto) (h:ds[i]?=some d):ixD (.lst ds) (.int (i:Int)) S=.ok d S:=by
 show a3l (atI ds (i:Int)) S=_
 rw [a29 h];rfl
theorem Q3 {α:Type} {src:Src} {l:List α} {h g:α->D} {p:α->Bool} {t:D->M Bool} {f:D->M D} {S:Sto} (hs:∀ i,src i S=some (l.map h)[i]?) (hl:l.length<sizeLine) (ht:∀ a∈l,t (h a) S=.ok (p a) S) (hf:∀ a∈l,p a=true->f (h a) S=.ok (g a) S):i4 src t f (l.length+1) 0 [] S=.ok ((l.filter p).map g) S:=by
 obtain ⟨es,S',e,e1,e2⟩:=Ok.comp (src:=src) (t:=t) (f:=f) (n:=l.length) (λi S' es=>S'=S/\es=((l.take i).filter p).map g) (λS' es q=>by obtain ⟨q,_⟩:=q;subst q;rw [hs,List.getElem?_eq_none (by simp)])
  (λi S' es hi ⟨h1,h2⟩=>by
   subst h1 h2
   refine ⟨h l[i],?_,p l[i],S',ht _ (List.getElem_mem hi),?_⟩
   ·rw [hs,List.getElem?_map,List.getElem?_eq_getElem hi];rfl
   ·have ta:l.take (i+1)=l.take i++[l[i]]:=List.take_succ_eq_append_getElem hi
    cases hp:p l[i] with
    | true=>
     dsimp only
     rw [if_pos rfl]
     refine ⟨g l[i],S',hf _ (List.getElem_mem hi) hp,?_,rfl,?_⟩
     ·rw [List.length_map]
      have:=List.length_filter_le p (l.take i)
      have:=List.length_take_le i l
      omega
     ·rw [ta,List.filter_append,List.map_append,List.filter_cons_of_pos hp];rfl
    | false=>
     dsimp only
     rw [if_neg Bool.false_ne_true]
     refine ⟨rfl,?_⟩
     rw [ta,List.filter_append,List.filter_cons_of_neg (by rw [hp];exact Bool.false_ne_true),List.filter_nil,List.append_nil]) (S:=S) ⟨rfl,rfl⟩
 rw [e]
 subst e1 e2
 rw [List.take_length]
theorem b5w (n i:Nat) (S:Sto):a1v 0 n i S=some ((List.range n).map λ(k:Nat)=>D.int (k:Int))[i]?:=by
 show some (if i<n then some (D.int (0+i)) else none)=_
 by_cases h:i<n
 ·rw [if_pos h,List.getElem?_map,List.getElem?_range h,Int.zero_add];rfl
 ·rw [if_neg h,List.getElem?_eq_none (by simpa using h)]
theorem c7u {S:Sto} {n:Nat} {ds:List D} (e:S[n]?=some (.lst ds)) (i:Nat):b1d n i S=some ds[i]?:=by
 simp only [b1d,e]
theorem i8 {α β:Type} {f:α->β} {l:List α} {i:Nat} {a:α} (h:l[i]?=some a):(l.map f)[i]?=some (f a):=by rw [List.getElem?_map,h];rfl
theorem b2v (x:Int):∀ ns:List Int,((ns.map PyData.int).any λy=>PyData.eqv y (.int x))=decide (x∈ns)
 | []=>by simp
 | y :: ns=>by
  simp only [List.map_cons,List.any_cons,b2v x ns,PyData.eqv]
  rw [Bool.eq_iff_iff,Bool.or_eq_true,decide_eq_true_eq,decide_eq_true_eq,List.mem_cons]
  constructor
  ·rintro (a | a)
   ·exact .inl (eq_of_beq a).symm
   ·exact .inr a
  ·rintro (a | a)
   ·exact .inl (by rw [a];exact beq_self_eq_true _)
   ·exact .inr a
noncomputable def Ex (S S':Sto):Prop:=∃ T,S'=S++T
theorem a18 (ds:List D) (S:Sto):j8 (.lst ds) S=.ok (.int ds.length) S:=rfl
end L3
end
section
set_option maxHeartbeats 1000000
namespace L3
open PySem PySem.Spec PyProof.Rows L2
noncomputable def Fw (ns:List Int) (p N:Nat) (S:Sto):Prop:=∃ a l t:Int,S[p]?=some (k8 ns a l t)/\0<=a/\0<=l/\0<=t/\t+N<1000000
theorem Fw.less {ns:List Int} {p N K:Nat} {S:Sto} (h:Fw ns p N S) (hm:K<=N):Fw ns p K S:=by
 obtain ⟨a,l,t,e,h1,h2,h3,h4⟩:=h
 exact ⟨a,l,t,e,h1,h2,h3,by omega⟩
theorem Fw.keep {ns:List Int} {p N:Nat} {S S':Sto} (h:Fw ns p N S) (e:S'[p]?=S[p]?):Fw ns p N S':=by
 obtain ⟨a,l,t,e1,h1⟩:=h
 exact ⟨a,l,t,by rw [e];exact e1,h1⟩
theorem Fw.lt {ns:List Int} {p N:Nat} {S:Sto} (h:Fw ns p N S):p<S.length:=by
 obtain ⟨a,l,t,e,_⟩:=h
 exact (List.getElem?_eq_some_iff.mp e).1
noncomputable def Xn {α:Type} (m:M α) (S:Sto) (Q:Nat->Sto->Prop):Prop:=∃ n S',m S=.exn n S'/\Q n S'
theorem Xn.bind {α β:Type} {m:M α} {k:α->M β} {S:Sto} {Q:Nat->Sto->Prop} (h:Xn m S Q):Xn (L3.bind m k) S Q:=by
 obtain ⟨n,S',e,q⟩:=h
 exact ⟨n,S',by unfold L3.bind;rw [e],q⟩
theorem Xn.ok {α β:Type} {m:M α} {k:α->M β} {S:Sto} {Q:Nat->Sto->Prop} (h:Ok m S λa S1=>Xn (k a) S1 Q):Xn (L3.bind m k) S Q:=by
 obtain ⟨a,S1,e,n,S',e2,q⟩:=h
 exact ⟨n,S',by unfold L3.bind;rw [e];exact e2,q⟩
theorem Xn.cg {α:Type} {m m':M α} {S:Sto} {Q:Nat->Sto->Prop} (e:m=m') (h:Xn m' S Q):Xn m S Q:=e▸h
theorem Ok.nx {α:Type} {m:M α} {S:Sto} {Q:α->Sto->Prop} (h:Ok m S Q):Ok (L3.nx m) S Q:=by
 obtain ⟨a,S1,e,q⟩:=h
 exact ⟨a,S1,by unfold L3.nx;rw [e],q⟩
theorem c06 {α:Type} {m:M α} {S S1:Sto} {a:α} (e:m S=.ok a S1):L3.nx m S=.ok a S1:=by unfold L3.nx;rw [e]
end L3
namespace L3
open PySem PySem.Spec PyProof.Rows L2
end L3
end

section
set_option maxHeartbeats 1000000
namespace L3
open PySem PySem.Spec PyProof.Rows L2
noncomputable def nxt {α:Type} (q:EvK) (lc:Lc) (sts:List Stmt) (k:Fl->M α):Fl->M α:=λfl=>match fl with
 | .nx ρ'=>k4 q lc sts ρ' k
 | fl=>k fl
section
variable {α:Type} {q:EvK} {lc:Lc} {st:Stmt} {sts:List Stmt} {ρ:L3.Env} {k:Fl->M α} {S:Sto} {Q:α->Sto->Prop} {P:Nat->Sto->Prop}
theorem Ok.first (h:Ok (q.s lc st ρ (nxt q lc sts k)) S Q):Ok (k4 q lc (st :: sts) ρ k) S Q:=h
theorem Ok.nxt (h:Ok (q.s lc st ρ (L3.nxt q lc sts k)) S Q):Ok (L3.nxt q lc (st :: sts) k (.nx ρ)) S Q:=h
theorem Xn.first (h:Xn (q.s lc st ρ (nxt q lc sts k)) S P):Xn (k4 q lc (st :: sts) ρ k) S P:=h
theorem Xn.nxt (h:Xn (q.s lc st ρ (L3.nxt q lc sts k)) S P):Xn (L3.nxt q lc (st :: sts) k (.nx ρ)) S P:=h
theorem Ok.pos {c:Prop} [Decidable c] {a b:M α} (h:c) (k:Ok a S Q):Ok (if c then a else b) S Q:=by rw [if_pos h];exact k
theorem Ok.neg {c:Prop} [Decidable c] {a b:M α} (h:¬ c) (k:Ok b S Q):Ok (if c then a else b) S Q:=by rw [if_neg h];exact k
theorem Xn.pos {c:Prop} [Decidable c] {a b:M α} (h:c) (k:Xn a S P):Xn (if c then a else b) S P:=by rw [if_pos h];exact k
end
noncomputable def fin {α:Type} (κ:Fl->M α):Fl->M α:=λfl=>match fl with
 | .nx ρ=>κ (.nx ρ)
 | fl=>κ fl
theorem Xn.eq {α β:Type} {m:M α} {k:α->M β} {S S1:Sto} {a:α} {Q:Nat->Sto->Prop} (e:m S=.ok a S1) (h:Xn (k a) S1 Q):Xn (L3.bind m k) S Q:=Xn.ok ⟨a,S1,e,h⟩
theorem a39 {ds:List D} {i:Nat} {x:D} {S:Sto} (h:i<ds.length) (hl:ds.length<=1000) :
  Ok (bind (B6 (.int (i:Int))) λn1=>bind (slD (.tup ds) none n1) λx2=>bind (f9 x2 (.tup [x])) λx3=>bind (f9 (.int (i:Int)) (.int 1)) λx4=>bind (B6 x4) λn5=>bind (slD (.tup ds) n5 none) λx6=>bind (f9 x3 x6) λx7=>ret x7) S λd S'=>d=.tup (ds.set i x)/\S'=S:=by
 have sl:(1001:Nat)<=sizeLine:=by decide
 have e:((i:Int)+1)=((i+1:Nat):Int):=by omega
 have c1:J0 ds none (some (i:Int))=ds.take i:=a0f (by omega)
 have c2:J0 ds (some ((i:Int)+1)) none=ds.drop (i+1):=by rw [e];exact a40 (by omega)
 refine Ok.eq (a:=some (i:Int)) rfl (Ok.eq (a:=.tup (ds.take i)) (by rw [<- c1];rfl) (Ok.eq (cat_tup (by simp;omega)) (Ok.eq (a:=.int ((i:Int)+1)) rfl (Ok.eq (a:=some ((i:Int)+1)) rfl (Ok.eq (a:=.tup (ds.drop (i+1))) (by rw [<- c2];rfl) (Ok.eq (cat_tup (by simp;omega)) (Ok.ret ⟨?_,rfl⟩)))))))
 rw [List.set_eq_take_append_cons_drop,if_pos h,List.append_assoc]
 rfl
theorem a9h {n:Nat}:∀ {ds:List D},(∀ d∈ds,sz d<=n)->szs ds<=(n+2) * ds.length
 | [],_=>Nat.le_refl _
 | d :: ds,h=>by
  have h1:=h d (by simp)
  have h2:=a9h (ds:=ds) λx hx=>h x (by simp [hx])
  show sz d+2+szs ds<=(n+2) * (ds.length+1)
  rw [Nat.mul_add]
  omega
theorem b2c (ns:List Int):∃ ms:List Int,J0 (ns.map D.int) none (some 63)=ms.map D.int:=⟨(ns.drop (HT.sIx ns.length 0 none)).take (HT.sIx ns.length ns.length (some 63)-HT.sIx ns.length 0 none),by simp [J0,List.map_drop,List.map_take]⟩
theorem U0 {n:Nat} (h:n<=6):n<sizeLine:=Nat.lt_of_le_of_lt h (by decide)
theorem u4 (n:Nat) (S:Sto):a1v 0 n n S=some none:=by
 show some (if n<n then _ else none)=some none
 rw [if_neg (Nat.lt_irrefl _)]
theorem A0 {n i:Nat} (h:i<n) (S:Sto):a1v 0 n i S=some (some (.int (i:Int))):=by rw [b5w,i8 (List.getElem?_range h)]
structure Sml (n N:Nat) (d:D):Prop where
 pl:Pln 0 d
 dp:dp d<=n
 sz:sz d<=N
noncomputable def Smls (n N:Nat) (ds:List D):Prop:=∀ d∈ds,Sml n N d
theorem Smls.nil {n N:Nat}:Smls n N []:=λd h=>by cases h
theorem Smls.cons {n N:Nat} {d:D} {ds:List D} (h:Sml n N d) (hs:Smls n N ds):Smls n N (d :: ds):=λx hx=>by
 rcases List.mem_cons.mp hx with z | z
 ·rw [z];exact h
 ·exact hs x z
theorem Smls.map {α:Type} {n N:Nat} {f:α->D} {l:List α} (h:∀ a∈l,Sml n N (f a)):Smls n N (l.map f):=λx hx=>by
 obtain ⟨a,ha,rfl⟩:=List.mem_map.mp hx
 exact h a ha
theorem Sml.mono {n N n' N':Nat} {d:D} (h:Sml n N d) (h1:n<=n') (h2:N<=N'):Sml n' N' d:=⟨h.pl,Nat.le_trans h.dp h1,Nat.le_trans h.sz h2⟩
theorem Sml.up {n N n' N':Nat} {d:D} (h:Sml n N d) (h1:n<=n':=by decide) (h2:N<=N':=by decide):Sml n' N' d:=h.mono h1 h2
theorem Sml.tup {n N m:Nat} {ds:List D} (h:Smls n N ds) (hl:ds.length<=m):Sml (n+1) ((N+2) * m+3) (.tup ds):=by
 have s:=a9h (n:=N) λd hd=>(h d hd).sz
 have d1:=b1u (n:=n) λd hd=>(h d hd).dp
 refine ⟨Plns.of λd hd=>(h d hd).pl,by show dps ds+1<=n+1;omega,?_⟩
 show szs ds+3<=_
 have:=Nat.mul_le_mul_left (N+2) hl
 omega
theorem Sml.w {n N:Nat} {d:D} (h:smB n N d=true:=by decide +kernel):Sml n N d:=⟨(a7c h).1,(a7c h).2.1,(a7c h).2.2⟩
theorem Sml.any {n N:Nat} {d:D} (h:Sml n N d) (hn:n<=43):Any 40 N d:=⟨h.pl.ups,by have:=h.dp;omega,h.sz⟩
theorem O2 (a b:Int) (S:Sto):b8 .Eq (.int a) (.int b) S=.ok (.bl (decide (a=b))) S:=rfl
theorem c8c (a b:Int) (S:Sto):b8 .LtE (.int a) (.int b) S=.ok (.bl (decide (a<=b))) S:=rfl
theorem a74 (a b:Int) (S:Sto):b8 .Lt (.int a) (.int b) S=.ok (.bl (decide (a<b))) S:=rfl
theorem a49 (a b:Int) (S:Sto):b8 .GtE (.int a) (.int b) S=.ok (.bl (decide (b<=a))) S:=rfl
theorem a88 (a b:Int) (S:Sto):b8 .Gt (.int a) (.int b) S=.ok (.bl (decide (b<a))) S:=rfl
theorem D9 (a b:Nat) (S:Sto):f9 (.int (a:Int)) (.int (b:Int)) S=.ok (.int ((a+b:Nat):Int)) S:=by
 show R.ok (D.int ((a:Int)+(b:Int))) S=_
 rw [show ((a:Int)+(b:Int))=((a+b:Nat):Int) by omega]
theorem a3o {a b:Nat} (h:b<=a) (S:Sto):a08 (.int (a:Int)) (.int (b:Int)) S=.ok (.int ((a-b:Nat):Int)) S:=by
 show R.ok (D.int ((a:Int)-(b:Int))) S=_
 rw [show ((a:Int)-(b:Int))=((a-b:Nat):Int) by omega]
theorem nx_bind {α β:Type} {m:M α} {k:α->M β} {S:Sto} {Q:β->Sto->Prop} (h:Ok m S λa S1=>Ok (k a) S1 Q):Ok (L3.bind (L3.nx m) k) S Q:=Ok.bind (Ok.nx h)
theorem d9 {α:Type} {m:M α} {S:Sto} {a:α} (h:Ok m S λd S'=>d=a/\S'=S):m S=.ok a S:=by
 obtain ⟨d,S',e,rfl,rfl⟩:=h
 exact e
theorem raise_k {α:Type} {c:Nat} {fs:List Str} {ds:List D} {S:Sto} {κ:Fl->M α} (h1:ds.length=fs.length) (h2:ds.all (D2 S)=true):Xn (L3.bind (E4 c fs ds) λd=>L3.bind (y3 d) κ) S λn S'=>n=S.length/\S'=S++[.exc c (fs.zip ds)]:=by
 refine Xn.ok ⟨_,_,c3j h1 h2,Xn.bind ⟨S.length,S++[.exc c (fs.zip ds)],?_,rfl,rfl⟩⟩
 simp [y3]
theorem Ok.loop {src:Src} {tg:D->L3.Env->Option L3.Env} {body:L3.Env->M Fl} {n:Nat} (I:Nat->L3.Env->Sto->Prop) (hend:∀ ρ S,I n ρ S->src n S=some none)
  (step:∀ i ρ S,i<n->I i ρ S->∃ d ρ1,src i S=some (some d)/\tg d ρ=some ρ1/\Ok (body ρ1) S λfl S'=>∃ ρ',(fl=.nx ρ'\/fl=.ct ρ')/\I (i+1) ρ' S') {ρ:L3.Env} {S:Sto} (h:I 0 ρ S) :
  Ok (y8 src tg body (n+1) 0 ρ) S λfl S'=>∃ ρ',fl=.nx ρ'/\I n ρ' S':=by
 refine (Ok.for_ (n:=n) I (λ_ _=>False) (λ_ _=>False) hend (λi ρ S hi h=>?_) n 0 ρ S (by omega) h).mono ?_
 ·obtain ⟨d,ρ1,e1,e2,k⟩:=step i ρ S hi h
  refine ⟨d,ρ1,e1,e2,k.mono ?_⟩
  rintro fl S' ⟨ρ',rfl | rfl,q⟩
  ·exact q
  ·exact q
 ·rintro fl S' hf
  cases fl with
  | nx ρ'=>
   rcases hf with q | q
   ·exact ⟨ρ',rfl,q⟩
   ·exact q.elim
  | rt d=>exact hf.elim
  | bk ρ=>exact hf.elim
  | ct ρ=>exact hf.elim
end L3
end
section
set_option maxHeartbeats 1000000
namespace L3
open PySem PySem.Spec PyProof.Rows L2
theorem b5m {ns:List Int} {p N m:Nat} {S:Sto} (h:Fw ns p (N+1) S) (hm:0<m) (hm2:m<1073741824):Ok (a8g (.ref p) (.int (m:Int))) S λd S'=>∃ r:Nat,d=.int (r:Int)/\r<m/\Fw ns p N S'/\S'.length=S.length/\∀ q,q≠p->S'[q]?=S[q]?:=by
 obtain ⟨a,l,t,e,h1,h2,h3,h4⟩:=h
 obtain ⟨r,a',l',e1,r0,r1,ha,hl⟩:=b3a (m:=(m:Int)) e h1 h2 h3 (by omega) (by omega) (by omega)
 obtain ⟨r,rfl⟩:=Int.eq_ofNat_of_zero_le r0
 refine ⟨_,_,e1,r,rfl,by omega,⟨a',l',t+1,?_,ha,hl,by omega,by omega⟩,by simp,λq hq=>?_⟩
 ·rw [List.getElem?_set_self (List.getElem?_eq_some_iff.mp e).1]
 ·rw [List.getElem?_set_ne (Ne.symm hq)]
end L3
namespace L3.Nt
open PySem PySem.Spec PyProof.Rows L2
inductive Wd where
 | out | ask | close | look | holds
noncomputable def Wd.s:Wd->Str
 | .out=>"out"
 | .ask=>"ask"
 | .close=>"close"
 | .look=>"look"
 | .holds=>"holds"
noncomputable def Wd.d (w:Wd):D:=.str w.s
noncomputable def L6 (b:Bool):Str:=if b=true then "down" else "right"
noncomputable def j4 (b:Bool):D:=.str (L6 b)
noncomputable def trD (t:List Bool):D:=.tup (t.map j4)
noncomputable def oD:Option Nat->D
 | none=>.non
 | some h=>.int (h:Int)
noncomputable abbrev Hnd:=List Bool×Wd
noncomputable def hdD (h:Hnd):D:=.tup [trD h.1,h.2.d]
noncomputable abbrev Box:=Option Nat×Bool
noncomputable def bxD (b:Box):D:=.tup [oD b.1,.bl b.2]
structure Nst where
 bx:List Box
 hs:List Hnd
noncomputable def Nst.d (r:Nst):D:=.tup [.tup (r.bx.map bxD),.tup (r.hs.map hdD)]
noncomputable def tri (n:Nat):Nat:=n * (n+1) / 2
noncomputable def dn (t:List Bool):Nat:=t.countP id
noncomputable def rt (t:List Bool):Nat:=t.countP λb=>!b
theorem O6 (t:List Bool):dn t+rt t=t.length:=by
 unfold dn rt
 induction t with
 | nil=>rfl
 | cons b t ih=>cases b <;> simp [List.countP_cons] <;> omega
theorem a9k (t:List Bool) (b:Bool):dn (t++[b])=dn t+(if b=true then 1 else 0):=by unfold dn;cases b <;> simp [List.countP_append]
theorem a9i (t:List Bool) (b:Bool):rt (t++[b])=rt t+(if b=true then 0 else 1):=by unfold rt;cases b <;> simp [List.countP_append]
theorem Z7:∀ t:List Bool,u8 (t.map j4)=some (t.map L6)
 | []=>rfl
 | b :: t=>by
  show (u8 (t.map j4)).map (L6 b :: ·)=_
  rw [Z7 t];rfl
theorem a8a (b:Bool) (t:List Bool):dn (b :: t)=(if b=true then 1 else 0)+dn t:=by unfold dn;cases b <;> simp [List.countP_cons] <;> omega
theorem a8t (b:Bool) (t:List Bool):rt (b :: t)=(if b=true then 0 else 1)+rt t:=by unfold rt;cases b <;> simp [List.countP_cons] <;> omega
theorem a0x:∀ t:List Bool,countIn (.str "down") ((t.map L6).map PyData.str)=(dn t:Int)
 | []=>rfl
 | true :: t=>by
  have e:countIn (.str "down") (((true :: t).map L6).map PyData.str)=1+countIn (.str "down") ((t.map L6).map PyData.str):=rfl
  rw [e,a0x t,a8a,if_pos rfl];omega
 | false :: t=>by
  have e:countIn (.str "down") (((false :: t).map L6).map PyData.str)=0+countIn (.str "down") ((t.map L6).map PyData.str):=rfl
  rw [e,a0x t,a8a,if_neg Bool.false_ne_true];omega
theorem U8:∀ t:List Bool,countIn (.str "right") ((t.map L6).map PyData.str)=(rt t:Int)
 | []=>rfl
 | true :: t=>by
  have e:countIn (.str "right") (((true :: t).map L6).map PyData.str)=0+countIn (.str "right") ((t.map L6).map PyData.str):=rfl
  rw [e,U8 t,a8t,if_pos rfl];omega
 | false :: t=>by
  have e:countIn (.str "right") (((false :: t).map L6).map PyData.str)=1+countIn (.str "right") ((t.map L6).map PyData.str):=rfl
  rw [e,U8 t,a8t,if_neg Bool.false_ne_true];omega
theorem b8i (t:List Bool) (S:Sto):countT (trD t) [.str "down"] S=.ok (.int (dn t:Int)) S:=by
 show (match u8 (t.map j4) with
  | some ys=>ret (D.int (countIn (.str "down") (ys.map PyData.str)))
  | none=>bad) S=_
 rw [Z7]
 show R.ok (D.int (countIn (.str "down") ((t.map L6).map PyData.str))) S=_
 rw [a0x]
theorem b3y (t:List Bool) (S:Sto):countT (trD t) [.str "right"] S=.ok (.int (rt t:Int)) S:=by
 show (match u8 (t.map j4) with
  | some ys=>ret (D.int (countIn (.str "right") (ys.map PyData.str)))
  | none=>bad) S=_
 rw [Z7]
 show R.ok (D.int (countIn (.str "right") ((t.map L6).map PyData.str))) S=_
 rw [U8]
noncomputable def v3 (size:Nat):List (Nat×Nat):=(List.range size).flatMap λb=>(List.range (b+1)).map λr=>(r,b-r)
noncomputable def cD (c:Nat×Nat):D:=.tup [.int (c.1:Int),.int (c.2:Int)]
theorem U3 {size:Nat} (h:size<=5):(v3 size).length=tri size:=by
 have:size=0\/size=1\/size=2\/size=3\/size=4\/size=5:=by omega
 rcases this with rfl | rfl | rfl | rfl | rfl | rfl <;> decide
theorem b9m:((List.range 6).all λsize=>(List.range 5).all λd=>(List.range 5).all λr=>(List.range 15).all λn=>!(decide (d+r<size))||(match (v3 size)[n]? with
  | some c=>(decide (tri (d+r)+d=n))==(decide ((d,r)=c))
  | none=>true))=true:=by decide +kernel
theorem c5b {size d r n:Nat} {c:Nat×Nat} (h5:size<=5) (hs:d+r<size) (hc:(v3 size)[n]?=some c):decide (tri (d+r)+d=n)=decide ((d,r)=c):=by
 have hn:n<15:=by
  have h1:=(List.getElem?_eq_some_iff.mp hc).1
  rw [U3 h5] at h1
  have:size=0\/size=1\/size=2\/size=3\/size=4\/size=5:=by omega
  rcases this with rfl | rfl | rfl | rfl | rfl | rfl <;> exact Nat.lt_of_lt_of_le h1 (by decide)
 have a:=List.all_eq_true.mp b9m size (List.mem_range.mpr (by omega))
 have a:=List.all_eq_true.mp a d (List.mem_range.mpr (by omega))
 have a:=List.all_eq_true.mp a r (List.mem_range.mpr (by omega))
 have a:=List.all_eq_true.mp a n (List.mem_range.mpr hn)
 rw [decide_eq_true hs,hc] at a
 simpa using a
noncomputable def j0 (p:Nat->Bool) (h:Hnd):D:=match (List.range h.1.length).find? p with
 | some i=>j4 (h.1.getD i false)
 | none=>if p h.1.length=true then h.2.d else .str "out"
theorem b0m {p q:Nat->Bool} {h:Hnd} (e:∀ i,i<=h.1.length->p i=q i):j0 p h=j0 q h:=by
 have e1:(List.range h.1.length).find? p=(List.range h.1.length).find? q:=by
  have:∀ l:List Nat,(∀ i∈l,p i=q i)->l.find? p=l.find? q:=by
   intro l
   induction l with
   | nil=>intro _;rfl
   | cons x l ih=>
    intro hl
    rw [List.find?_cons,List.find?_cons,hl x (by simp),ih λi hi=>hl i (by simp [hi])]
  exact this _ λi hi=>e i (by have:=List.mem_range.mp hi;omega)
 unfold j0
 rw [e1,e h.1.length (Nat.le_refl _)]
theorem A6 {p:Nat->Bool} {n:Nat} (h:∀ j,j<n->p j=false):(List.range n).find? p=none:=by
 rw [List.find?_eq_none]
 intro x hx
 rw [h x (List.mem_range.mp hx)];exact Bool.false_ne_true
theorem a33 {p:Nat->Bool} {n i:Nat} (hi:i<n) (h:∀ j,j<i->p j=false) (hp:p i=true):(List.range n).find? p=some i:=by
 have:List.range n=List.range i++(List.range' i (n-i)):=by
  rw [List.range_eq_range',List.range_eq_range']
  have e:=List.range'_append_1 (s:=0) (m:=i) (n:=n-i)
  rw [show i+(n-i)=n by omega,Nat.zero_add] at e
  exact e.symm
 rw [this,List.find?_append,A6 h]
 obtain ⟨m,hm⟩:∃ m,n-i=m+1:=⟨n-i-1,by omega⟩
 rw [hm,List.range'_succ,List.find?_cons,hp]
 rfl
end L3.Nt
end

section
set_option maxHeartbeats 1000000
namespace L3
open PySem PySem.Spec PyProof.Rows L2
theorem c3o {ws:List Str} (hw:∀ w∈ws,Asc w) (S:Sto):b8 .Eq (.lst (ws.map D.str)) (.lst []) S=.ok (.bl (decide (ws=[]))) S/\b8 .NotEq (.lst (ws.map D.str)) (.lst []) S=.ok (.bl (!decide (ws=[]))) S:=by
 have e:m3 64 S (.lst (ws.map D.str))=some (.list (ws.map PyData.str)):=by
  show (k9 (m3 63 S) (ws.map D.str)).map PyData.list=_
  rw [V3 62 S ws];rfl
 have e0:m3 64 S (.lst [])=some (.list []):=rfl
 have l:(PyData.list (ws.map PyData.str)).canLay0=true:=by simp only [PyData.canLay0];exact a0w ws hw
 have v:PyData.eqv (.list (ws.map PyData.str)) (.list [])=decide (ws=[]):=by
  cases ws with
  | nil=>rfl
  | cons w ws=>rfl
 have g:∀ neg:Bool,eqP neg (.lst (ws.map D.str)) (.lst []) S=.ok (.bl (if neg then !decide (ws=[]) else decide (ws=[]))) S:=by
  intro neg
  unfold eqP
  rw [e,e0]
  simp only
  rw [if_pos ⟨l,rfl,by rw [show PyData.depth (.list [])=1 from rfl];omega⟩,v];rfl
 exact ⟨g false,g true⟩
end L3
namespace L3.Nt
open PySem PySem.Spec PyProof.Rows L2
inductive W7 where
 | out | ask | close | look | holds | right | down
deriving DecidableEq
noncomputable def W7.s:W7->Str
 | .out=>"out"
 | .ask=>"ask"
 | .close=>"close"
 | .look=>"look"
 | .holds=>"holds"
 | .right=>"right"
 | .down=>"down"
noncomputable def W7.d (w:W7):D:=.str w.s
theorem W7.asc (w:W7):Asc w.s:=by
 show ∀ c∈w.s.cps.toList,c<128
 cases w <;> decide +kernel
noncomputable def Wd.w7:Wd->W7
 | .out=>.out
 | .ask=>.ask
 | .close=>.close
 | .look=>.look
 | .holds=>.holds
noncomputable def a5q (b:Bool):W7:=if b=true then .down else .right
theorem Wd.w7_d (w:Wd):w.w7.d=w.d:=by cases w <;> rfl
theorem c4u (b:Bool):(a5q b).d=j4 b:=by cases b <;> rfl
noncomputable def P6 (p:Nat->Bool) (h:Hnd):W7:=match (List.range h.1.length).find? p with
 | some i=>a5q (h.1.getD i false)
 | none=>if p h.1.length=true then h.2.w7 else .out
theorem a24 (p:Nat->Bool) (h:Hnd):(P6 p h).d=j0 p h:=by
 unfold P6 j0
 cases (List.range h.1.length).find? p with
 | some i=>exact c4u _
 | none=>
  simp only
  by_cases q:p h.1.length=true
  ·rw [if_pos q,if_pos q];exact Wd.w7_d _
  ·rw [if_neg q,if_neg q];rfl
noncomputable def op4:W7->Bool
 | .look | .holds | .right | .down=>true
 | _=>false
noncomputable def cl3:W7->Bool
 | .look | .holds | .down=>true
 | _=>false
noncomputable def amM (ws:List W7):Option Nat->Str
 | none=>if ws.any (λw=>decide (w≠.out))=true then "free" else ""
 | some g=>if ws[g]?=some .out\/ws[g]?=some .down then "mark" else if ws.any (λw=>decide (w=.holds))=true/\(ws[g]?=some .close\/ws[g]?=some .look) then "late" else if 1<ws.countP (λw=>decide (w=.holds)) then "twice" else ""
noncomputable def amH (mk:Option Nat) (cl:Bool) (ws:List W7):Str:=
 if cl=false/\ws.any op4=true then "open" else if cl=true/\ws.any cl3=false then "closed" else amM ws mk
theorem b14 (l:List W7):l.map W7.d=(l.map W7.s).map D.str:=by rw [List.map_map];rfl
theorem a9a (l:List W7) (S:Sto):b8 .Eq (.lst (l.map W7.d)) (.lst []) S=.ok (.bl l.isEmpty) S/\b8 .NotEq (.lst (l.map W7.d)) (.lst []) S=.ok (.bl (!l.isEmpty)) S:=by
 have h:=c3o (ws:=l.map W7.s) (λw hw=>by obtain ⟨a,_,rfl⟩:=List.mem_map.mp hw;exact a.asc) S
 rw [<- b14] at h
 have e:decide (l.map W7.s=[])=l.isEmpty:=by cases l <;> rfl
 rw [e] at h
 exact h
theorem filter_nil (p:W7->Bool) (l:List W7):(l.filter p).isEmpty=!(l.any p):=by
 induction l with
 | nil=>rfl
 | cons x l ih=>cases h:p x <;> simp [List.filter_cons,h,ih]
end L3.Nt
end

section
set_option maxHeartbeats 1000000
namespace L3.Nt
open PySem PySem.Spec PyProof.Rows L2
structure GoodL (mk:Option Nat) (cl:Bool) (ws:List W7):Prop where
 g1:cl=false->∀ w∈ws,op4 w=false
 g2:cl=true->∃ w∈ws,cl3 w=true
 g3:mk=none->∀ w∈ws,w=.out
 g4:∀ g,mk=some g->∃ w,ws[g]?=some w/\w≠.out/\w≠.down
 g5:∀ g,mk=some g->(ws[g]?=some .close\/ws[g]?=some .look)->∀ w∈ws,w≠.holds
 g6:ws.countP (λw=>decide (w=.holds))<=1
theorem b8c {mk:Option Nat} {cl:Bool} {ws:List W7} (hm:∀ g,mk=some g->g<ws.length):amH mk cl ws = ""↔GoodL mk cl ws:=by
 have ne:∀ x:Str,x = "open"\/x = "closed"\/x = "free"\/x = "mark"\/x = "late"\/x = "twice"->x ≠ "":=by
  rintro x (rfl | rfl | rfl | rfl | rfl | rfl) <;> decide
 constructor
 ·intro h
  unfold amH at h
  split at h
  ·exact absurd h (ne _ (.inl rfl))
  ·rename_i q1
   split at h
   ·exact absurd h (ne _ (.inr (.inl rfl)))
   ·rename_i q2
    have a1:cl=false->∀ w∈ws,op4 w=false:=λc w hw=>by
     cases e:op4 w with
     | false=>rfl
     | true=>exact absurd ⟨c,List.any_eq_true.mpr ⟨w,hw,e⟩⟩ q1
    have a2:cl=true->∃ w∈ws,cl3 w=true:=λc=>by
     cases e:ws.any cl3 with
     | false=>exact absurd ⟨c,e⟩ q2
     | true=>exact List.any_eq_true.mp e
    cases mk with
    | none=>
     unfold amM at h
     simp only at h
     split at h
     ·exact absurd h (ne _ (.inr (.inr (.inl rfl))))
     ·rename_i q3
      have a3:∀ w∈ws,w=.out:=λw hw=>by
       by_cases e:w=.out
       ·exact e
       ·exact absurd (List.any_eq_true.mpr ⟨w,hw,decide_eq_true e⟩) q3
      refine ⟨a1,a2,λ_=>a3,λg z=>(by cases z),λg z=>(by cases z),?_⟩
      rw [List.countP_eq_zero.mpr λw hw=>by rw [a3 w hw];decide];omega
    | some g=>
     unfold amM at h
     simp only at h
     split at h
     ·exact absurd h (ne _ (.inr (.inr (.inr (.inl rfl)))))
     ·rename_i q3
      split at h
      ·exact absurd h (ne _ (.inr (.inr (.inr (.inr (.inl rfl))))))
      ·rename_i q4
       split at h
       ·exact absurd h (ne _ (.inr (.inr (.inr (.inr (.inr rfl))))))
       ·rename_i q5
        refine ⟨a1,a2,λz=>(by cases z),λg' z=>?_,λg' z hz w hw e=>?_,by omega⟩
        ·cases z
         obtain ⟨w,hw⟩:∃ w,ws[g]?=some w:=⟨_,List.getElem?_eq_getElem (hm g rfl)⟩
         exact ⟨w,hw,λe=>q3 (.inl (by rw [hw,e])),λe=>q3 (.inr (by rw [hw,e]))⟩
        ·cases z
         exact q4 ⟨List.any_eq_true.mpr ⟨w,hw,decide_eq_true e⟩,hz⟩
 ·intro G
  unfold amH
  rw [if_neg,if_neg]
  ·cases mk with
   | none=>
    unfold amM
    simp only
    rw [if_neg]
    intro z
    obtain ⟨w,hw,e⟩:=List.any_eq_true.mp z
    exact of_decide_eq_true e (G.g3 rfl w hw)
   | some g=>
    obtain ⟨w,hw,e1,e2⟩:=G.g4 g rfl
    unfold amM
    simp only
    rw [if_neg,if_neg,if_neg]
    ·have:=G.g6;omega
    ·rintro ⟨z,y⟩
     obtain ⟨v,hv,e⟩:=List.any_eq_true.mp z
     exact G.g5 g rfl y v hv (of_decide_eq_true e)
    ·rw [hw]
     rintro (z | z)
     ·exact e1 (Option.some.inj z)
     ·exact e2 (Option.some.inj z)
  ·rintro ⟨c,z⟩
   obtain ⟨w,hw,e⟩:=G.g2 c
   rw [List.any_eq_true.mpr ⟨w,hw,e⟩] at z;cases z
  ·rintro ⟨c,z⟩
   obtain ⟨w,hw,e⟩:=List.any_eq_true.mp z
   rw [G.g1 c w hw] at e;cases e
theorem b77 {ws:List W7} {i:Nat} {x y v:W7} (hi:ws[i]?=some x) (hv:v∈ws) (hne:v≠x):v∈ws.set i y:=by
 obtain ⟨j,hj⟩:=List.mem_iff_getElem?.mp hv
 have:i≠j:=λe=>hne (by rw [e,hj] at hi;exact Option.some.inj hi)
 exact List.mem_iff_getElem?.mpr ⟨j,by rw [List.getElem?_set_ne this];exact hj⟩
theorem a70 {ws:List W7} {i:Nat} {x y:W7} (hi:ws[i]?=some x) (p:W7->Bool):(ws.set i y).countP p+(if p x=true then 1 else 0)=ws.countP p+(if p y=true then 1 else 0):=by
 induction ws generalizing i with
 | nil=>cases hi
 | cons a ws ih=>
  cases i with
  | zero=>
   cases hi
   rw [List.set_cons_zero,List.countP_cons,List.countP_cons];omega
  | succ i=>
   rw [List.set_cons_succ,List.countP_cons,List.countP_cons]
   have:=ih (i:=i) hi
   omega
theorem GoodL.put {mk mk':Option Nat} {cl cl':Bool} {ws:List W7} (G:GoodL mk cl ws) {i:Nat} {x y:W7} (hi:ws[i]?=some x)
  (h1:cl'=false->op4 y=false/\cl=false)
  (h2:cl'=true->cl3 y=true\/(cl=true/\cl3 x=false))
  (h3:mk'=none->False)
  (h4:∀ g,mk'=some g->if g=i then y≠.out/\y≠.down else mk=some g)
  (h5:∀ g,mk'=some g->if g=i then (y=.close\/y=.look)->∀ w∈ws,w≠.holds else (ws[g]?=some .close\/ws[g]?=some .look)->y≠.holds)
  (h6:y=.holds->x=.holds\/∀ w∈ws,w≠.holds) (h7:x≠.holds):GoodL mk' cl' (ws.set i y):=by
 have il:i<ws.length:=(List.getElem?_eq_some_iff.mp hi).1
 have ms:∀ w∈ws.set i y,w=y\/w∈ws:=λw hw=>(List.mem_or_eq_of_mem_set hw).elim .inr .inl
 refine ⟨λc w hw=>?_,λc=>?_,λz=>(h3 z).elim,λg hg=>?_,λg hg hz w hw e=>?_,?_⟩
 ·obtain ⟨a,b⟩:=h1 c
  rcases ms w hw with rfl | z
  ·exact a
  ·exact G.g1 b w z
 ·rcases h2 c with a | ⟨a,b⟩
  ·exact ⟨y,List.mem_iff_getElem?.mpr ⟨i,List.getElem?_set_self il⟩,a⟩
  ·obtain ⟨w,hw,e⟩:=G.g2 a
   exact ⟨w,b77 hi hw (λz=>by rw [z,b] at e;cases e),e⟩
 ·have a:=h4 g hg
  by_cases q:g=i
  ·rw [if_pos q] at a
   exact ⟨y,by rw [q];exact List.getElem?_set_self il,a⟩
  ·rw [if_neg q] at a
   obtain ⟨w,hw,e⟩:=G.g4 g a
   exact ⟨w,by rw [List.getElem?_set_ne (Ne.symm q)];exact hw,e⟩
 ·have a:=h5 g hg
  by_cases q:g=i
  ·rw [if_pos q] at a
   rw [q,List.getElem?_set_self il] at hz
   have hz':y=.close\/y=.look:=hz.imp Option.some.inj Option.some.inj
   rcases ms w hw with z | z
   ·rw [z] at e;rw [e] at hz';rcases hz' with z | z <;> cases z
   ·exact a hz' w z e
  ·rw [if_neg q] at a
   rw [List.getElem?_set_ne (Ne.symm q)] at hz
   have b:=h4 g hg
   rw [if_neg q] at b
   rcases ms w hw with z | z
   ·exact a hz (by rw [<- z];exact e)
   ·exact G.g5 g b hz w z e
 ·have c:=a70 (y:=y) hi (λw=>decide (w=.holds))
  rw [if_neg (by rw [decide_eq_false h7];decide)] at c
  have g6:=G.g6
  by_cases q:y=.holds
  ·rcases h6 q with z | z
   ·exact absurd z h7
   ·have c0:ws.countP (λw=>decide (w=.holds))=0:=List.countP_eq_zero.mpr λw hw=>by rw [decide_eq_false (z w hw)];decide
    rw [c0] at c
    split at c <;> omega
  ·rw [if_neg (by rw [decide_eq_false q];decide)] at c
   omega
theorem a7r {a b:Nat} (hab:a<b):tri a+a<tri b:=by
 have e:∀ n,tri (n+1)=tri n+(n+1):=by
  intro n;unfold tri
  have:(n+1) * (n+1+1)=n * (n+1)+(n+1) * 2:=by
   rw [Nat.mul_add (n+1) (n+1) 1,Nat.add_mul n 1 (n+1)];omega
  rw [this,Nat.add_mul_div_right _ _ (by omega)]
 induction hab with
 | refl=>rw [e];omega
 | step _ ih=>rw [e];omega
noncomputable def E2 (c:Nat×Nat):Nat:=tri (c.1+c.2)+c.1
theorem b3x {c d:Nat×Nat} (h:E2 c=E2 d):c=d:=by
 unfold E2 at h
 rcases Nat.lt_trichotomy (c.1+c.2) (d.1+d.2) with q | q | q
 ·have:=a7r q;omega
 ·rw [q] at h
  exact Prod.ext (by omega) (by omega)
 ·have:=a7r q;omega
noncomputable def f7 (t:List Bool):Nat×Nat:=(dn t,rt t)
theorem M7 (t:List Bool):(f7 t).1+(f7 t).2=t.length:=O6 t
noncomputable def i9 (t:List Bool):Nat:=tri t.length+dn t
theorem Y2 (t:List Bool):i9 t=E2 (f7 t):=by unfold i9 E2;rw [M7];rfl
noncomputable def w7c (c:Nat×Nat) (h:Hnd):W7:=if c.1+c.2<h.1.length/\f7 (h.1.take (c.1+c.2))=c then a5q (h.1.getD (c.1+c.2) false) else if f7 h.1=c then h.2.w7 else .out
theorem Z8 {t:List Bool} {j:Nat} (hj:j<=t.length):(f7 (t.take j)).1+(f7 (t.take j)).2=j:=by rw [M7,List.length_take];omega
noncomputable def pC (t:List Bool) (c:Nat×Nat) (i:Nat):Bool:=decide ((dn (t.take i),rt (t.take i))=c)
theorem a2s (c:Nat×Nat) (h:Hnd):P6 (pC h.1 c) h=w7c c h:=by
 have hp:∀ j,j<=h.1.length->pC h.1 c j=true->j=c.1+c.2:=λj hj e=>by
  have e:f7 (h.1.take j)=c:=of_decide_eq_true e
  have:=Z8 hj
  rw [e] at this;omega
 unfold P6 w7c
 by_cases q:c.1+c.2<h.1.length/\f7 (h.1.take (c.1+c.2))=c
 ·rw [if_pos q,a33 q.1 (λj hj=>?_) (decide_eq_true q.2)]
  cases e:pC h.1 c j with
  | false=>rfl
  | true=>have:=hp j (by omega) e;omega
 ·rw [if_neg q,A6 λj hj=>?_]
  ·simp only
   have:pC h.1 c h.1.length=decide (f7 h.1=c):=by unfold pC;rw [List.take_length];rfl
   rw [this]
   by_cases z:f7 h.1=c
   ·rw [if_pos (decide_eq_true z),if_pos z]
   ·rw [if_neg (by rw [decide_eq_false z];decide),if_neg z]
  ·cases e:pC h.1 c j with
   | false=>rfl
   | true=>
    have:=hp j (by omega) e
    subst this
    exact absurd ⟨hj,of_decide_eq_true e⟩ q
theorem b44 (t:List Bool) (w:Wd):w7c (f7 t) (t,w)=w.w7:=by
 unfold w7c
 rw [if_neg (λz=>by have:=z.1;rw [M7] at this;exact Nat.lt_irrefl _ this),if_pos rfl]
theorem c5g {c:Nat×Nat} {t:List Bool} (w w':Wd) (h:c≠f7 t):w7c c (t,w')=w7c c (t,w):=by
 unfold w7c
 simp only
 by_cases q:c.1+c.2<t.length/\f7 (t.take (c.1+c.2))=c
 ·rw [if_pos q,if_pos q]
 ·rw [if_neg q,if_neg q,if_neg (Ne.symm h),if_neg (Ne.symm h)]
theorem c45 (t:List Bool) (b:Bool) (w:Wd):w7c (f7 t) (t++[b],w)=a5q b:=by
 unfold w7c
 simp only
 rw [M7,if_pos ⟨by simp,by rw [List.take_left]⟩]
 simp
theorem c0x {c:Nat×Nat} {t:List Bool} (b:Bool) (w:Wd) (h:c≠f7 t):w7c c (t++[b],.out)=w7c c (t,w):=by
 unfold w7c
 simp only
 by_cases q:c.1+c.2<t.length
 ·have e:(t++[b]).take (c.1+c.2)=t.take (c.1+c.2):=List.take_append_of_le_length (by omega)
  have e2:(t++[b]).getD (c.1+c.2) false=t.getD (c.1+c.2) false:=by simp [List.getD,List.getElem?_append_left q]
  rw [e,e2]
  by_cases z:f7 (t.take (c.1+c.2))=c
  ·rw [if_pos ⟨by simp;omega,z⟩,if_pos ⟨q,z⟩]
  ·have h1:¬ (c.1+c.2<(t++[b]).length/\f7 (t.take (c.1+c.2))=c):=λy=>z y.2
   have h2:¬ (c.1+c.2<t.length/\f7 (t.take (c.1+c.2))=c):=λy=>z y.2
   rw [if_neg h1,if_neg h2,if_neg (Ne.symm h)]
   exact ite_self _
 ·have h1:¬ (c.1+c.2<(t++[b]).length/\f7 ((t++[b]).take (c.1+c.2))=c):=λy=>by
   have l:=y.1
   rw [List.length_append,List.length_singleton] at l
   have e:c.1+c.2=t.length:=by omega
   have y2:=y.2
   rw [e,List.take_left] at y2
   exact h y2.symm
  have h2:¬ (c.1+c.2<t.length/\f7 (t.take (c.1+c.2))=c):=λy=>q y.1
  rw [if_neg h1,if_neg h2,if_neg (Ne.symm h)]
  exact ite_self _
structure VN (size many:Nat) (r:Nst):Prop where
 s5:size<=5
 m5:many<=5
 bl:r.bx.length=tri size
 hl:r.hs.length=many
 tr:∀ h∈r.hs,h.1.length<size
 mg:∀ b∈r.bx,∀ g,b.1=some g->g<many
noncomputable def j3 (size:Nat) (r:Nst) (i n:Nat) (b:Box) (t:List Bool) (w:Wd):Option Nst:=if size<=t.length then none else some ⟨r.bx.set n b,r.hs.set i (t,w)⟩
noncomputable def j7 (size:Nat) (r:Nst) (i:Nat):Option Nst:=match r.hs[i]? with
 | none=>none
 | some (t,w)=>match r.bx[i9 t]? with
  | none=>none
  | some (mk,cl)=>match w with
   | .out=>j3 size r i (i9 t) (some i,cl) t .ask
   | .ask=>if cl=true then j3 size r i (i9 t) (mk,cl) (t++[false]) .out else j3 size r i (i9 t) (mk,cl) t .close
   | .close=>j3 size r i (i9 t) (mk,true) t .look
   | .look=>if mk=some i then j3 size r i (i9 t) (mk,cl) t .holds else j3 size r i (i9 t) (mk,cl) (t++[true]) .out
   | .holds=>none
noncomputable def c5p (size:Nat) (r:Nst) (i:Nat) (t:List Bool) (mk:Option Nat) (cl:Bool):Wd->Option Nst
 | .out=>j3 size r i (i9 t) (some i,cl) t .ask
 | .ask=>if cl=true then j3 size r i (i9 t) (mk,cl) (t++[false]) .out else j3 size r i (i9 t) (mk,cl) t .close
 | .close=>j3 size r i (i9 t) (mk,true) t .look
 | .look=>if mk=some i then j3 size r i (i9 t) (mk,cl) t .holds else j3 size r i (i9 t) (mk,cl) (t++[true]) .out
 | .holds=>none
theorem a51 {size:Nat} {r:Nst} {i:Nat} {t:List Bool} {w:Wd} {mk:Option Nat} {cl:Bool} (ha:r.hs[i]?=some (t,w)) (hb:r.bx[i9 t]?=some (mk,cl)):j7 size r i=c5p size r i t mk cl w:=by
 unfold j7
 rw [ha];simp only;rw [hb]
 cases w <;> rfl
noncomputable def GoodN (size:Nat) (r:Nst):Prop:=∀ c:Nat×Nat,c.1+c.2<size->∃ b:Box,r.bx[E2 c]?=some b/\GoodL b.1 b.2 (r.hs.map (w7c c))
theorem b36 {α:Type} {l:List α} {i:Nat} {a:α} (h:l[i]?=some a):l.set i a=l:=by
 induction l generalizing i with
 | nil=>rfl
 | cons x l ih=>
  cases i with
  | zero=>cases h;rfl
  | succ i=>rw [List.set_cons_succ,ih h]
theorem GoodN.go {size:Nat} {r:Nst} (G:GoodN size r) {i:Nat} {t t':List Bool} {w w':Wd} {b':Box} (ha:r.hs[i]?=some (t,w)) (hn:i9 t<r.bx.length) (ho:∀ c,c≠f7 t->w7c c (t',w')=w7c c (t,w))
  (hg:GoodL b'.1 b'.2 ((r.hs.map (w7c (f7 t))).set i (w7c (f7 t) (t',w')))):GoodN size ⟨r.bx.set (i9 t) b',r.hs.set i (t',w')⟩:=by
 intro c hc
 by_cases q:c=f7 t
 ·subst q
  refine ⟨b',?_,?_⟩
  ·show (r.bx.set (i9 t) b')[E2 (f7 t)]?=some b'
   rw [<- Y2];exact List.getElem?_set_self hn
  ·show GoodL b'.1 b'.2 ((r.hs.set i (t',w')).map (w7c (f7 t)))
   rw [List.map_set];exact hg
 ·obtain ⟨b,e,g⟩:=G c hc
  refine ⟨b,?_,?_⟩
  ·show (r.bx.set (i9 t) b')[E2 c]?=some b
   rw [List.getElem?_set_ne (λz=>q (b3x (by rw [<- z,Y2])))];exact e
  ·show GoodL b.1 b.2 ((r.hs.set i (t',w')).map (w7c c))
   rw [List.map_set,ho c q,b36 (by rw [List.getElem?_map,ha];rfl)];exact g
theorem GoodN.step {size many:Nat} {r r':Nst} (V:VN size many r) (G:GoodN size r) {i:Nat} (e:j7 size r i=some r'):GoodN size r':=by
 cases ha:r.hs[i]? with
 | none=>unfold j7 at e;rw [ha] at e;cases e
 | some h=>
  obtain ⟨t,w⟩:=h
  have ht:t.length<size:=V.tr (t,w) (List.mem_of_getElem? ha)
  obtain ⟨⟨mk,cl⟩,hb,g⟩:=G (f7 t) (by rw [M7];exact ht)
  rw [<- Y2] at hb
  have hn:i9 t<r.bx.length:=(List.getElem?_eq_some_iff.mp hb).1
  have hx:(r.hs.map (w7c (f7 t)))[i]?=some w.w7:=by rw [List.getElem?_map,ha];exact congrArg some (b44 t w)
  have g:GoodL mk cl (r.hs.map (w7c (f7 t))):=g
  generalize hws:r.hs.map (w7c (f7 t))=ws at g hx
  have xm:w.w7∈ws:=List.mem_of_getElem? hx
  rw [a51 ha hb] at e
  have stay:∀ (m:Option Nat) (c:Bool) (w':Wd),GoodL m c (ws.set i w'.w7)->j3 size r i (i9 t) (m,c) t w'=some r'->GoodN size r':=by
   intro m c w' hg e
   unfold j3 at e
   rw [if_neg (by omega)] at e
   cases e
   exact G.go ha hn (λc hc=>c5g w w' hc) (by rw [hws,b44];exact hg)
  have leave:∀ (m:Option Nat) (c b:Bool),GoodL m c (ws.set i (a5q b))->j3 size r i (i9 t) (m,c) (t++[b]) .out=some r'->GoodN size r':=by
   intro m c b hg e
   unfold j3 at e
   split at e
   ·cases e
   ·cases e
    exact G.go ha hn (λc hc=>c0x b w hc) (by rw [hws,c45];exact hg)
  cases w with
  | out=>exact stay (some i) cl .ask (g.put hx (λc=>⟨rfl,c⟩) (λc=>.inr ⟨c,rfl⟩) (λz=>by cases z) (λk z=>by cases z;rw [if_pos rfl];exact ⟨by decide,by decide⟩) (λk z=>by cases z;rw [if_pos rfl];rintro (z | z) <;> cases z) (λz=>by cases z) (by decide)) e
  | ask=>
   cases cl with
   | true=>exact leave mk true false (g.put hx (λc=>by cases c) (λc=>.inr ⟨rfl,rfl⟩) (λz=>by cases g.g3 z _ xm) (λk z=>by split;exact ⟨by decide,by decide⟩;exact z) (λk z=>by split;(rintro (z | z) <;> cases z);exact λ_=>by decide) (λz=>by cases z) (by decide)) e
   | false=>exact stay mk false .close (g.put hx (λc=>⟨rfl,rfl⟩) (λc=>by cases c) (λz=>by cases g.g3 z _ xm) (λk z=>by split;exact ⟨by decide,by decide⟩;exact z) (λk z=>by split;(exact λ_ w hw e=>by have:=g.g1 rfl w hw;rw [e] at this;cases this);exact λ_=>by decide) (λz=>by cases z) (by decide)) e
  | close=>exact stay mk true .look (g.put hx (λc=>by cases c) (λc=>.inl rfl) (λz=>by cases g.g3 z _ xm) (λk z=>by split;exact ⟨by decide,by decide⟩;exact z) (λk z=>by split;(rename_i q;subst q;exact λ_=>g.g5 k z (.inl hx));exact λ_=>by decide) (λz=>by cases z) (by decide)) e
  | look=>
   have nc:¬ cl=false:=λc=>by have:=g.g1 c _ xm;cases this
   by_cases q:mk=some i
   ·subst q
    exact stay (some i) cl .holds (g.put hx (λc=>(nc c).elim) (λc=>.inl rfl) (λz=>by cases z) (λk z=>by cases z;rw [if_pos rfl];exact ⟨by decide,by decide⟩) (λk z=>by cases z;rw [if_pos rfl];rintro (z | z) <;> cases z) (λ_=>.inr (g.g5 i rfl (.inr hx))) (by decide)) ((if_pos rfl).symm.trans e)
   ·exact leave mk cl true (g.put hx (λc=>(nc c).elim) (λc=>.inl rfl) (λz=>by cases g.g3 z _ xm) (λk z=>by split;(rename_i y;subst y;exact (q z).elim);exact z) (λk z=>by split;(rename_i y;subst y;exact (q z).elim);exact λ_=>by decide) (λz=>by cases z) (by decide)) ((if_neg q).symm.trans e)
  | holds=>cases e
noncomputable def Wd.isOut:Wd->Bool
 | .out=>true
 | _=>false
noncomputable def A3 (h:Hnd):Bool:=!(h.1.isEmpty&&h.2.isOut)
theorem P4 {h:Hnd} (e:0<h.1.length):A3 h=true:=by
 obtain ⟨t,w⟩:=h
 cases t with
 | nil=>exact absurd e (by simp)
 | cons b t=>rfl
theorem M4 {h:Hnd} (e:h.2.w7≠.out):A3 h=true:=by
 obtain ⟨t,w⟩:=h
 cases w with
 | out=>exact absurd rfl e
 | _=>cases t <;> rfl
theorem a0g {t:List Bool} {j:Nat} {b:Bool} (h:t[j]?=some b):f7 (t.take (j+1))=(if b=true then ((f7 (t.take j)).1+1,(f7 (t.take j)).2) else ((f7 (t.take j)).1,(f7 (t.take j)).2+1)):=by
 have hj:j<t.length:=(List.getElem?_eq_some_iff.mp h).1
 have e:t.take (j+1)=t.take j++[b]:=by
  rw [List.take_succ_eq_append_getElem hj,(List.getElem?_eq_some_iff.mp h).2]
 rw [e]
 unfold f7
 rw [a9k,a9i]
 cases b <;> rfl
theorem b5y {α:Type} {p q:α->Bool}:∀ {l:List α},(∀ x∈l,p x=true->q x=true)->(∃ x∈l,q x=true/\p x=false)->l.countP p<l.countP q
 | [],_,⟨x,hx,_⟩=>by cases hx
 | a :: l,h,⟨x,hx,e1,e2⟩=>by
  have le:∀ {m:List α},(∀ x∈m,p x=true->q x=true)->m.countP p<=m.countP q:=by
   intro m
   induction m with
   | nil=>intro _;exact Nat.le_refl _
   | cons y m ih=>
    intro hm
    rw [List.countP_cons,List.countP_cons]
    have:=ih λx hx=>hm x (List.mem_cons_of_mem _ hx)
    have:=hm y (List.mem_cons_self ..)
    cases hp:p y with
    | false=>simp only [Bool.false_eq_true,if_false];omega
    | true=>rw [this hp];simp only [if_true];omega
  rw [List.countP_cons,List.countP_cons]
  rcases List.mem_cons.mp hx with rfl | hx
  ·rw [e1,e2]
   have:=le (m:=l) λx hx=>h x (List.mem_cons_of_mem _ hx)
   simp only [Bool.false_eq_true,if_false,if_true];omega
  ·have:=b5y (l:=l) (λx hx=>h x (List.mem_cons_of_mem _ hx)) ⟨x,hx,e1,e2⟩
   have:=h a (List.mem_cons_self ..)
   cases hp:p a with
   | false=>simp only [Bool.false_eq_true,if_false];omega
   | true=>rw [this hp];simp only [if_true];omega
section
variable {size:Nat} {r:Nst} (G:GoodN size r) (T:∀ h∈r.hs,h.1.length<size)
include G T
theorem W3 {c:Nat×Nat} {h:Hnd} {w:W7} (e:w7c c h=w) (hw:w≠.out):(∃ b,h.1[c.1+c.2]?=some b/\f7 (h.1.take (c.1+c.2))=c/\w=a5q b)\/(f7 h.1=c/\h.2.w7=w):=by
 unfold w7c at e
 split at e
 ·rename_i q
  obtain ⟨b,hb⟩:∃ b,h.1[c.1+c.2]?=some b:=⟨_,List.getElem?_eq_getElem q.1⟩
  refine .inl ⟨b,hb,q.2,?_⟩
  rw [<- e,List.getD_eq_getElem?_getD,hb];rfl
 ·split at e
  ·rename_i q;exact .inr ⟨q,e⟩
  ·exact absurd e.symm hw
theorem c2v:∀ (n:Nat) (h:Hnd) (j:Nat),h∈r.hs->A3 h=true->j<=h.1.length->size-j<=n->∃ h2∈r.hs,A3 h2=true/\dn h2.1=(f7 (h.1.take j)).1/\(f7 (h.1.take j)).2<=rt h2.1:=by
 intro n
 induction n with
 | zero=>intro h j hh _ hj hn;have:=T h hh;omega
 | succ n ih=>
  intro h j hh hb hj hn
  have ht:=T h hh
  have sj:=Z8 hj
  by_cases q:j=h.1.length
  ·rw [q,List.take_length]
   exact ⟨h,hh,hb,rfl,Nat.le_refl _⟩
  ·generalize hc:f7 (h.1.take j)=c at sj
   obtain ⟨⟨mk,cl⟩,_,g⟩:=G c (by omega)
   obtain ⟨b,eb⟩:∃ b,h.1[j]?=some b:=⟨_,List.getElem?_eq_getElem (by omega)⟩
   have wh:w7c c h=a5q b:=by
    unfold w7c
    rw [sj,if_pos ⟨by omega,hc⟩,List.getD_eq_getElem?_getD,eb];rfl
   have hm:w7c c h∈r.hs.map (w7c c):=List.mem_map_of_mem hh
   have nm:mk≠none:=λz=>by
    have:=g.g3 z _ hm
    rw [wh] at this
    cases b <;> cases this
   obtain ⟨k,ek⟩:∃ k,mk=some k:=by
    cases mk with
    | none=>exact absurd rfl nm
    | some k=>exact ⟨k,rfl⟩
   obtain ⟨w,hw,n1,n2⟩:=g.g4 k ek
   rw [List.getElem?_map] at hw
   obtain ⟨h',eh',ew⟩:=Option.map_eq_some_iff.mp hw
   have hh':h'∈r.hs:=List.mem_of_getElem? eh'
   rcases W3 G T ew n1 with ⟨b',eb',e2,e3⟩ | ⟨e2,e3⟩
   ·rw [sj] at eb' e2
    have l':j<h'.1.length:=(List.getElem?_eq_some_iff.mp eb').1
    have bf:b'=false:=by
     cases b' with
     | false=>rfl
     | true=>exact absurd e3 n2
    subst bf
    have ps:=a0g eb'
    rw [e2] at ps
    obtain ⟨h2,a1,a2,a3,a4⟩:=ih h' (j+1) hh' (P4 (by omega)) (by omega) (by omega)
    rw [ps] at a3 a4
    exact ⟨h2,a1,a2,a3,by have:c.2+1<=rt h2.1:=a4;omega⟩
   ·refine ⟨h',hh',M4 (by rw [e3];exact n1),?_,?_⟩
    ·rw [<- e2];rfl
    ·rw [<- e2];exact Nat.le_refl _
theorem c43:∀ (n:Nat) (h:Hnd) (j:Nat),h∈r.hs->A3 h=true->j<=h.1.length->size-j<=n->∃ h2∈r.hs,A3 h2=true/\rt h2.1=(f7 (h.1.take j)).2/\(f7 (h.1.take j)).1<=dn h2.1:=by
 intro n
 induction n with
 | zero=>intro h j hh _ hj hn;have:=T h hh;omega
 | succ n ih=>
  intro h j hh hb hj hn
  have ht:=T h hh
  have sj:=Z8 hj
  by_cases q:j=h.1.length
  ·rw [q,List.take_length]
   exact ⟨h,hh,hb,rfl,Nat.le_refl _⟩
  ·have on:∀ h':Hnd,h'∈r.hs->h'.1[j]?=some true->f7 (h'.1.take j)=f7 (h.1.take j)->∃ h2∈r.hs,A3 h2=true/\rt h2.1=(f7 (h.1.take j)).2/\(f7 (h.1.take j)).1<=dn h2.1:=by
    intro h' hh' eb' e2
    have l':j<h'.1.length:=(List.getElem?_eq_some_iff.mp eb').1
    have ps:=a0g eb'
    rw [e2] at ps
    obtain ⟨h2,a1,a2,a3,a4⟩:=ih h' (j+1) hh' (P4 (by omega)) (by omega) (by omega)
    rw [ps] at a3 a4
    exact ⟨h2,a1,a2,a3,by have:(f7 (h.1.take j)).1+1<=dn h2.1:=a4;omega⟩
   obtain ⟨b,eb⟩:∃ b,h.1[j]?=some b:=⟨_,List.getElem?_eq_getElem (by omega)⟩
   cases b with
   | true=>exact on h hh eb rfl
   | false=>
    generalize hc:f7 (h.1.take j)=c at sj on ⊢
    obtain ⟨⟨mk,cl⟩,_,g⟩:=G c (by omega)
    have wh:w7c c h=a5q false:=by
     unfold w7c
     rw [sj,if_pos ⟨by omega,hc⟩,List.getD_eq_getElem?_getD,eb];rfl
    have hm:w7c c h∈r.hs.map (w7c c):=List.mem_map_of_mem hh
    have nc:cl=true:=by
     cases cl with
     | true=>rfl
     | false=>
      have:=g.g1 rfl _ hm
      rw [wh] at this;cases this
    obtain ⟨w,hw,e3⟩:=g.g2 nc
    obtain ⟨h',hh',ew⟩:=List.mem_map.mp hw
    have n1:w≠.out:=λz=>by rw [z] at e3;cases e3
    rcases W3 G T ew n1 with ⟨b',eb',e2,e4⟩ | ⟨e2,e4⟩
    ·rw [sj] at eb' e2
     have bt:b'=true:=by
      cases b' with
      | true=>rfl
      | false=>rw [e4] at e3;cases e3
     subst bt
     exact on h' hh' eb' e2
    ·refine ⟨h',hh',M4 (by rw [e4];exact n1),?_,?_⟩
     ·rw [<- e2];rfl
     ·rw [<- e2];exact Nat.le_refl _
omit G T in
noncomputable def cor (r:Nst) (row col:Nat):Nat:=r.hs.countP λh=>A3 h&&(decide (row<=dn h.1)&&decide (col<=rt h.1))
omit G T in
theorem a5e {P:Nat->Prop}:∀ n:Nat,¬ P 0->P n->∃ j,j<n/\¬ P j/\P (j+1)
 | 0,h0,hn=>absurd hn h0
 | n+1,h0,hn=>by
  by_cases q:P n
  ·obtain ⟨j,hj,a⟩:=a5e n h0 q
   exact ⟨j,by omega,a⟩
  ·exact ⟨n,by omega,q,hn⟩
theorem a8d:∀ (n row col:Nat),row+col=n->0<cor r row col->cor r row col+row+col<=cor r 0 0:=by
 intro n
 induction n with
 | zero=>
  intro row col e _
  have e1:row=0:=by omega
  have e2:col=0:=by omega
  subst e1 e2;omega
 | succ n ih=>
  intro row col e hp
  obtain ⟨h,hh,ph⟩:=List.countP_pos_iff.mp hp
  simp only [Bool.and_eq_true,decide_eq_true_eq] at ph
  obtain ⟨hb,h1,h2⟩:=ph
  obtain ⟨j,hj,nj,pj⟩:=a5e (P:=λj=>row<=(f7 (h.1.take j)).1/\col<=(f7 (h.1.take j)).2) h.1.length (by
   intro z
   have z1:row<=0:=z.1
   have z2:col<=0:=z.2
   omega) (by rw [List.take_length];exact ⟨h1,h2⟩)
  obtain ⟨b,eb⟩:∃ b,h.1[j]?=some b:=⟨_,List.getElem?_eq_getElem hj⟩
  have ps:=a0g eb
  rw [ps] at pj
  have lt:∀ (row' col':Nat) (h2:Hnd),row'<=row->col'<=col->h2∈r.hs->A3 h2=true->row'<=dn h2.1->col'<=rt h2.1->¬ (row<=dn h2.1/\col<=rt h2.1)->cor r row col<cor r row' col':=by
   intro row' col' h2 r1 c1 m2 b2 r2 c2 nn
   refine b5y (λx _ hx=>?_) ⟨h2,m2,?_,?_⟩
   ·simp only [Bool.and_eq_true,decide_eq_true_eq] at hx ⊢
    exact ⟨hx.1,by omega,by omega⟩
   ·simp only [Bool.and_eq_true,decide_eq_true_eq];exact ⟨b2,r2,c2⟩
   ·cases z:(A3 h2&&(decide (row<=dn h2.1)&&decide (col<=rt h2.1))) with
    | false=>rfl
    | true=>
     simp only [Bool.and_eq_true,decide_eq_true_eq] at z
     exact absurd z.2 nn
  cases b with
  | true=>
   have pj:row<=(f7 (h.1.take j)).1+1/\col<=(f7 (h.1.take j)).2:=pj
   have er:row=(f7 (h.1.take j)).1+1:=by
    by_cases q:row<=(f7 (h.1.take j)).1
    ·exact absurd ⟨q,pj.2⟩ nj
    ·omega
   obtain ⟨h2,m2,b2,d2,c2⟩:=c2v G T size h j hh hb (by omega) (by omega)
   have l:=lt (row-1) col h2 (by omega) (Nat.le_refl _) m2 b2 (by omega) (by omega) (by omega)
   have:=ih (row-1) col (by omega) (by omega)
   omega
  | false=>
   have pj:row<=(f7 (h.1.take j)).1/\col<=(f7 (h.1.take j)).2+1:=pj
   have er:col=(f7 (h.1.take j)).2+1:=by
    by_cases q:col<=(f7 (h.1.take j)).2
    ·exact absurd ⟨pj.1,q⟩ nj
    ·omega
   obtain ⟨h2,m2,b2,d2,c2⟩:=c43 G T size h j hh hb (by omega) (by omega)
   have l:=lt row (col-1) h2 (Nat.le_refl _) (by omega) m2 b2 (by omega) (by omega) (by omega)
   have:=ih row (col-1) (by omega) (by omega)
   omega
theorem c0p:cor r 0 0<=r.hs.length:=List.countP_le_length
end
theorem b9g {size many:Nat} {r:Nst} (V:VN size many r) (G:GoodN size r) (hm:many<=size) {i:Nat} {t:List Bool} {w:Wd} (ha:r.hs[i]?=some (t,w)) (hw:w≠.holds):j7 size r i≠none:=by
 have hi:(t,w)∈r.hs:=List.mem_of_getElem? ha
 have ht:t.length<size:=V.tr (t,w) hi
 obtain ⟨⟨mk,cl⟩,hb,g⟩:=G (f7 t) (by rw [M7];exact ht)
 rw [<- Y2] at hb
 have g:GoodL mk cl (r.hs.map (w7c (f7 t))):=g
 have hx:(r.hs.map (w7c (f7 t)))[i]?=some w.w7:=by rw [List.getElem?_map,ha];exact congrArg some (b44 t w)
 rw [a51 ha hb]
 have stay:∀ (b:Box) (w':Wd),j3 size r i (i9 t) b t w'≠none:=λb w' z=>by
  unfold j3 at z;rw [if_neg (by omega)] at z;cases z
 have alone:w.w7≠.out->size<=t.length+1->∀ k,k≠i->∀ x,(r.hs.map (w7c (f7 t)))[k]?=some x->x=.out:=by
  intro wo hs k hk x ex
  by_cases q:x=.out
  ·exact q
  ·rw [List.getElem?_map] at ex
   obtain ⟨h',eh',ew⟩:=Option.map_eq_some_iff.mp ex
   have le:dn t<=dn h'.1/\rt t<=rt h'.1/\A3 h'=true:=by
    rcases W3 G V.tr ew q with ⟨b,eb,e2,_⟩ | ⟨e2,e3⟩
    ·have l':=(List.getElem?_eq_some_iff.mp eb).1
     have mono:∀ (l:List Bool) (j:Nat),dn (l.take j)<=dn l/\rt (l.take j)<=rt l:=λl j=>by
      have e:=List.take_append_drop j l
      constructor
      ·unfold dn;rw [<- e,List.countP_append,List.take_append_drop];omega
      ·unfold rt;rw [<- e,List.countP_append,List.take_append_drop];omega
     have m:=mono h'.1 ((f7 t).1+(f7 t).2)
     have e21:dn (h'.1.take ((f7 t).1+(f7 t).2))=dn t:=congrArg Prod.fst e2
     have e22:rt (h'.1.take ((f7 t).1+(f7 t).2))=rt t:=congrArg Prod.snd e2
     rw [e21,e22] at m
     exact ⟨m.1,m.2,P4 (by omega)⟩
    ·have e21:dn h'.1=dn t:=congrArg Prod.fst e2
     have e22:rt h'.1=rt t:=congrArg Prod.snd e2
     exact ⟨by omega,by omega,M4 (by rw [e3];exact q)⟩
   have c2:2<=cor r (dn t) (rt t):=by
    have p1:(λh:Hnd=>A3 h&&(decide (dn t<=dn h.1)&&decide (rt t<=rt h.1))) (t,w)=true:=by
     simp only [Bool.and_eq_true,decide_eq_true_eq];exact ⟨M4 wo,Nat.le_refl _,Nat.le_refl _⟩
    have p2:(λh:Hnd=>A3 h&&(decide (dn t<=dn h.1)&&decide (rt t<=rt h.1))) h'=true:=by
     simp only [Bool.and_eq_true,decide_eq_true_eq];exact ⟨le.2.2,le.1,le.2.1⟩
    have two:∀ (p:Hnd->Bool) (l:List Hnd) (i k:Nat) (a b:Hnd),k≠i->l[i]?=some a->l[k]?=some b->p a=true->p b=true->2<=l.countP p:=by
     intro p l
     induction l with
     | nil=>intro i k a b _ h;cases h
     | cons y l ih=>
      intro i k a b hne h1 h2 pa pb
      rw [List.countP_cons]
      cases i with
      | zero=>
       cases h1
       cases k with
       | zero=>exact absurd rfl hne
       | succ k=>
        have:0<l.countP p:=List.countP_pos_iff.mpr ⟨b,List.mem_of_getElem? h2,pb⟩
        rw [if_pos pa];omega
      | succ i=>
       cases k with
       | zero=>
        cases h2
        have:0<l.countP p:=List.countP_pos_iff.mpr ⟨a,List.mem_of_getElem? h1,pa⟩
        rw [if_pos pb];omega
       | succ k=>
        have:=ih i k a b (λz=>hne (by rw [z])) h1 h2 pa pb
        omega
    exact two _ r.hs i k _ _ hk ha eh' p1 p2
   have:=a8d G V.tr _ (dn t) (rt t) rfl (by omega)
   have:=c0p G V.tr
   have:=V.hl
   have:=O6 t
   omega
 have leave:∀ (b:Box) (d:Bool),¬ size<=t.length+1->j3 size r i (i9 t) b (t++[d]) .out≠none:=λb d q z=>by
  unfold j3 at z;rw [if_neg (by simp;omega)] at z;cases z
 cases w with
 | out=>exact stay _ _
 | close=>exact stay _ _
 | holds=>exact absurd rfl hw
 | ask=>
  cases cl with
  | false=>exact stay _ _
  | true=>
   refine leave _ _ λq=>?_
   obtain ⟨x,hxm,e⟩:=g.g2 rfl
   obtain ⟨k,ek⟩:=List.mem_iff_getElem?.mp hxm
   by_cases z:k=i
   ·rw [z,hx] at ek;cases ek;cases e
   ·rw [alone (by decide) q k z x ek] at e;cases e
 | look=>
  by_cases q:mk=some i
  ·show (if mk=some i then _ else _)≠none
   rw [if_pos q];exact stay _ _
  ·show (if mk=some i then _ else _)≠none
   rw [if_neg q]
   refine leave _ _ λs=>?_
   cases mk with
   | none=>cases g.g3 rfl _ (List.mem_of_getElem? hx)
   | some k=>
    obtain ⟨x,ex,n1,_⟩:=g.g4 k rfl
    exact n1 (alone (by decide) s k (λz=>q (by rw [z])) x ex)
end L3.Nt
end
section
set_option maxHeartbeats 1000000
namespace L3.Un
open PySem PySem.Spec PyProof.Rows L2
end L3.Un
end
section
set_option maxHeartbeats 1000000
namespace L3.K15
open PySem PySem.Spec PyProof.Rows L2
noncomputable def nth (l:List Stmt) (i:Nat):Stmt:=l.getD i (.Pass ⟨0,0,0,0⟩)
noncomputable def top (i:Nat):Stmt:=nth PySem.Challenge.pw_handnames_k15_whole_corners_of_nets.main.body i
noncomputable def v5:Stmt->List Stmt
 | .For _ _ b _ _=>b
 | .While _ b _ _=>b
 | _=>[]
noncomputable abbrev b2t:Fd:=j6 (top 5) []
noncomputable abbrev b6k:Fd:=j6 (top 6) []
noncomputable abbrev b37:Fd:=j6 (top 7) []
noncomputable abbrev b6d:Fd:=j6 (top 8) []
noncomputable abbrev z14_F:Fd:=j6 (top 12) []
noncomputable abbrev b26:Fd:=j6 (top 13) []
noncomputable abbrev c4z:Fd:=j6 (top 14) []
noncomputable abbrev z2_F:Fd:=j6 (top 15) []
noncomputable abbrev b45:Fd:=j6 (top 17) []
noncomputable abbrev b2p:Fd:=j6 (top 18) []
noncomputable abbrev b27:Fd:=j6 (top 19) []
noncomputable abbrev z20_F:Fd:=j6 (top 20) []
noncomputable abbrev b7r:Fd:=j6 (top 21) []
noncomputable abbrev z22_F:Fd:=j6 (top 22) []
noncomputable abbrev z30_F:Fd:=j6 (top 23) []
noncomputable abbrev z21_F:Fd:=j6 (top 26) []
noncomputable abbrev z1_F:Fd:=j6 (top 27) []
noncomputable abbrev b40:Fd:=j6 (top 28) []
noncomputable abbrev c5f:Fd:=j6 (top 29) []
noncomputable abbrev b6q:Fd:=j6 (top 30) []
noncomputable abbrev z12_F:Fd:=j6 (top 31) []
noncomputable abbrev z5_F:Fd:=j6 (top 32) []
noncomputable abbrev b2a:Fd:=j6 (top 33) []
noncomputable abbrev z39_F:Fd:=j6 (top 35) []
noncomputable abbrev b53:Fd:=j6 (top 36) []
noncomputable abbrev says_F:Fd:=j6 (top 37) []
noncomputable abbrev b57:Fd:=j6 (top 39) []
noncomputable abbrev b3v:Fd:=j6 (top 40) []
noncomputable abbrev z31_F:Fd:=j6 (top 41) []
noncomputable abbrev z35_F:Fd:=j6 (top 42) []
noncomputable abbrev z19_F:Fd:=j6 (top 43) []
noncomputable abbrev b4n:Fd:=j6 (top 44) []
noncomputable abbrev b2l:Fd:=j6 (top 45) []
noncomputable abbrev z7_F:Fd:=j6 (top 46) []
noncomputable abbrev z11_F:Fd:=j6 (top 47) []
noncomputable abbrev z34_F:Fd:=j6 (top 48) []
noncomputable abbrev b5i:Fd:=j6 (top 49) []
noncomputable abbrev z17_F:Fd:=j6 (top 50) []
noncomputable abbrev z32_F:Fd:=j6 (top 51) []
noncomputable abbrev z16_F:Fd:=j6 (top 52) []
noncomputable abbrev c5l:Fd:=j6 (top 53) ["_law_some"]
noncomputable abbrev z24_F:Fd:=j6 (top 54) []
noncomputable abbrev z4_F:Fd:=j6 (top 55) ["count[]"]
noncomputable abbrev law_F:Fd:=j6 (top 56) []
noncomputable abbrev c2b:Nat:=0
noncomputable abbrev U1:Nat:=1
noncomputable abbrev c4f:Nat:=2
noncomputable abbrev c4h:Nat:=3
noncomputable abbrev c2l:Nat:=4
noncomputable abbrev c35:Nat:=5
noncomputable abbrev c9e:Nat:=6
noncomputable abbrev a6f:Nat:=7
noncomputable abbrev b1n:Nat:=8
noncomputable abbrev c26:Nat:=9
noncomputable abbrev a3z:Nat:=10
noncomputable abbrev C2:Nat:=11
noncomputable abbrev a8o:Nat:=12
noncomputable abbrev a2z:Nat:=13
noncomputable abbrev b4y:Nat:=14
noncomputable abbrev c2e:Nat:=15
noncomputable abbrev c8q:Nat:=16
noncomputable abbrev b52:Nat:=17
noncomputable abbrev c11:Nat:=18
noncomputable abbrev c2u:Nat:=19
noncomputable abbrev c4w:Nat:=20
noncomputable abbrev c9o:Nat:=21
noncomputable abbrev c5m:Nat:=22
noncomputable abbrev V8:Nat:=23
noncomputable abbrev a8c:Nat:=24
noncomputable abbrev a3e:Nat:=25
noncomputable abbrev c5n:Nat:=26
noncomputable abbrev c3f:Nat:=27
noncomputable abbrev c32:Nat:=28
noncomputable abbrev c2k:Nat:=29
noncomputable abbrev b5s:Nat:=30
noncomputable abbrev b38:Nat:=31
noncomputable abbrev c4v:Nat:=32
noncomputable abbrev c1a:Nat:=33
noncomputable abbrev b23:Nat:=34
noncomputable abbrev c5z:Nat:=35
noncomputable abbrev c28:Nat:=36
noncomputable abbrev c20:Nat:=37
noncomputable abbrev c52:Nat:=38
noncomputable abbrev c6a:Nat:=39
noncomputable abbrev c05:Nat:=40
noncomputable abbrev c4l:Nat:=41
noncomputable abbrev c1x:Nat:=42
noncomputable abbrev b2h:Nat:=43
noncomputable def Tb:List Fd:=[b2t,b6k,b37,b6d,z14_F,b26,c4z,z2_F,b45,b2p,b27,z20_F,b7r,z22_F,z30_F,z21_F,z1_F,b40,c5f,b6q,z12_F,z5_F,b2a,z39_F,b53,says_F,b57,b3v,z31_F,z35_F,z19_F,b4n,b2l,z7_F,z11_F,z34_F,b5i,z17_F,z32_F,z16_F,c5l,z24_F,z4_F,law_F]
noncomputable def Γ:Gm:=⟨("HandError",.err 0 []) :: ("NoStep",.err 1 ["hand"]) :: ("NoStand",.err 2 ["word","at"]) :: ("WORDS",.val (.tup [(.str "out"),(.str "ask"),(.str "close"),(.str "look"),(.str "holds"),(.str "right"),(.str "down")])) :: ("ENDED",.val (.tup [(.str "holds"),(.str "right"),(.str "down")])) :: ("WORDS_HERE",.val (.tup [(.str "out"),(.str "ask"),(.str "close"),(.str "look"),(.str "holds")])) :: ("is_whole",.fn 0 1) :: ("is_tuple_of",.fn 1 2) :: ("with_at",.fn 2 3) :: ("triangle",.fn 3 1) :: ("is_decider",.fn 4 2) :: ("is_mark",.fn 5 2) :: ("are_words_of",.fn 6 2) :: ("step_decider",.fn 7 2) :: ("cell_of",.fn 8 1) :: ("end_of",.fn 9 1) :: ("number_of",.fn 10 1) :: ("step_net",.fn 11 3) :: ("hand_behind",.fn 12 2) :: ("local_at",.fn 13 3) :: ("word_at",.fn 14 2) :: ("lets_net",.fn 15 3) :: ("is_net_stand",.fn 16 3) :: ("is_box",.fn 17 2) :: ("is_hand_here",.fn 18 2) :: ("is_trail",.fn 19 2) :: ("check_local",.fn 20 2) :: ("check_marked",.fn 21 3) :: ("some_at",.fn 22 2) :: ("is_so",.fn 23 2) :: ("hands_meant",.fn 24 2) :: ("says",.fn 25 3) :: ("_law_feed",.fn 26 1) :: ("_law_draw",.fn 27 2) :: ("_law_behind",.fn 28 2) :: ("_law_cells",.fn 29 1) :: ("_law_word_at",.fn 30 2) :: ("_law_local",.fn 31 3) :: ("_law_at",.fn 32 1) :: ("_law_net_behind",.fn 33 3) :: ("_law_amiss_here",.fn 34 1) :: ("_law_amiss",.fn 35 2) :: ("_law_first_net",.fn 36 2) :: ("_law_reached",.fn 37 3) :: ("_law_nudged",.fn 38 3) :: ("_law_anybody",.fn 39 3) :: ("_law_good_sentences",.fn 40 0) :: ("_law_corners",.fn 41 2) :: ("_law_cells_right",.fn 42 2) :: ("law",.fn 43 1) :: [],λc c0=>c0==0||c==c0,["hand","word","at"],[]⟩
noncomputable def Rs:Rules:=⟨[c17,c89,d15,d0w,rIx,d1n,d0y,rFn,d1h,c85,b9t,d1b,c4c,d1q,d18,d2c,d2r,d2i,c8p,rIf,d2m,d1c,rSl,c6e,c37,c2y,rAppend,d08,c0h,c0g],[c56,c9a,d1i,c44],[c4d,sIf,d0z,d0x,c78,b5c,d11,d2p,c77,c7k,c87],[b9k,c8r,d2o]⟩
noncomputable abbrev rn (k i:Nat) (ds:List D):M D:=N2 Rs Γ Tb k i ds
theorem b9e (C:Cf) (qa:D):runK Rs Γ C b2t [qa]=bind (X7 "int" (λ_=>false) qa) λx1=>bind (j5 x1) λc2=>if c2=true then (bind (X7 "bool" (λ_=>false) qa) λx3=>bind (j5 x3) λc4=>ret (.bl (!c4))) else (ret x1):=by kernel_rfl
theorem b9v (C:Cf) (qa qb:D):runK Rs Γ C b6k [qa,qb]=bind (X7 "tuple" (λ_=>false) qa) λx1=>bind (j5 x1) λc2=>if c2=true then (bind (j8 qa) λx3=>bind (b8 .Eq x3 qb) λx4=>ret x4) else (ret x1):=by kernel_rfl
theorem b8a (C:Cf) (qa qb qc:D):runK Rs Γ C b37 [qa,qb,qc]=bind (B6 qb) λn1=>bind (slD qa none n1) λx2=>bind (f9 x2 (.tup [qc])) λx3=>bind (f9 qb (.int 1)) λx4=>bind (B6 x4) λn5=>bind (slD qa n5 none) λx6=>bind (f9 x3 x6) λx7=>ret x7:=by kernel_rfl
theorem b71 (C:Cf) (qa:D):runK Rs Γ C b6d [qa]=bind (f9 qa (.int 1)) λx1=>bind (C7 qa x1) λx2=>bind (G1 x2 (.int 2)) λx3=>ret x3:=by kernel_rfl
noncomputable def a89:Lc:=y4 z14_F
theorem b7m (C:Cf) (qa qb:D):runK Rs Γ C z14_F [qa,qb]=k4 (evK Rs Γ C 40) a89 z14_F.body [some qa,some qb,none,none,none] endD:=by kernel_rfl
theorem b9u:z14_F.body=[nth z14_F.body 0,nth z14_F.body 1,nth z14_F.body 2]:=by kernel_rfl
theorem c8z (C:Cf) (qa:D) (qb qc qd qe:Option D) {α:Type} (κ:Fl->M α):(evK Rs Γ C 40).s a89 (nth z14_F.body 0) [qb,some qa,qc,qd,qe] κ=bind (C 1 [qa,(.int 3)]) λx1=>bind (j5 x1) λz2=>if (!z2)=true then (κ (.rt (.bl false))) else (κ (.nx [qb,some qa,qc,qd,qe])):=by kernel_rfl
theorem c61 (C:Cf) (qa:D) (qb qc qd qe:Option D) {α:Type} (κ:Fl->M α):(evK Rs Γ C 40).s a89 (nth z14_F.body 1) [qb,some qa,qc,qd,qe] κ=bind (A4 (m9 [2,3,4]) qa [qb,some qa,qc,qd,qe]) κ:=by kernel_rfl
theorem d0r (C:Cf) (qa qb qc qd:D) (qe:Option D) {α:Type} (κ:Fl->M α):(evK Rs Γ C 40).s a89 (nth z14_F.body 2) [some qa,qe,some qb,some qc,some qd] κ=bind (C 5 [qa,qb]) λx1=>bind (j5 x1) λc2=>if c2=true then (bind (X7 "bool" (λ_=>false) qc) λx3=>bind (j5 x3) λc4=>if c4=true then (bind (C 6 [qa,qd]) λx5=>κ (.rt x5)) else (κ (.rt x3))) else (κ (.rt x1)):=by kernel_rfl
theorem b8e (C:Cf) (qa qb:D):runK Rs Γ C b26 [qa,qb]=bind (b8 .Is qb .non) λx1=>bind (j5 x1) λc2=>if c2=true then (ret x1) else (bind (C 0 [qb]) λx3=>bind (j5 x3) λc4=>if c4=true then (bind (b8 .LtE (.int 0) qb) λx5=>bind (asB x5) λz6=>if z6=true then (bind (b8 .Lt qb qa) λx7=>ret x7) else (ret (.bl false))) else (ret x3)):=by kernel_rfl
theorem c21 (C:Cf) (qa qb:D):runK Rs Γ C c4z [qa,qb]=bind (C 1 [qb,qa]) λx1=>bind (j5 x1) λc2=>if c2=true then (bind (nx (bind (y9 qb) λsm4=>i4 sm4.1 (λd3=>ret true) (λd3=>bind (b8 .In d3 (.tup [(.str "out"),(.str "ask"),(.str "close"),(.str "look"),(.str "holds"),(.str "right"),(.str "down")])) λx5=>ret x5) sm4.2 0 [])) λl6=>bind (a3g (.lst l6)) λx7=>ret x7) else (ret x1):=by kernel_rfl
noncomputable def a48:Lc:=y4 z2_F
theorem b3i (C:Cf) (qa qb:D):runK Rs Γ C z2_F [qa,qb]=k4 (evK Rs Γ C 40) a48 z2_F.body [some qa,some qb,none,none,none,none] endD:=by kernel_rfl
theorem b2s:z2_F.body=[nth z2_F.body 0,nth z2_F.body 1,nth z2_F.body 2,nth z2_F.body 3,nth z2_F.body 4,nth z2_F.body 5,nth z2_F.body 6]:=by kernel_rfl
theorem d0a (C:Cf) (qa:D) (qb qc qd qe qf:Option D) {α:Type} (κ:Fl->M α):(evK Rs Γ C 40).s a48 (nth z2_F.body 0) [some qa,qb,qc,qd,qe,qf] κ=bind (A4 (m9 [2,3,4]) qa [some qa,qb,qc,qd,qe,qf]) κ:=by kernel_rfl
theorem c8f (C:Cf) (qa qb:D) (qc qd qe qf:Option D) {α:Type} (κ:Fl->M α):(evK Rs Γ C 40).s a48 (nth z2_F.body 1) [qc,some qa,qd,qe,some qb,qf] κ=bind (ixD qb qa) λx1=>κ (.nx [qc,some qa,qd,qe,some qb,some x1]):=by kernel_rfl
theorem c9h (C:Cf) (qa qb:D) (qc qd qe qf:Option D) {α:Type} (κ:Fl->M α):(evK Rs Γ C 40).s a48 (nth z2_F.body 2) [qc,some qa,qd,qe,qf,some qb] κ=bind (b8 .In qb (.tup [(.str "holds"),(.str "right"),(.str "down")])) λx1=>bind (asB x1) λz2=>if z2=true then (bind (E4 1 ["hand"] [qa]) λx3=>bind (y3 x3) (fin κ)) else (κ (.nx [qc,some qa,qd,qe,qf,some qb])):=by kernel_rfl
theorem b98 (C:Cf) (qa qb qc qd:D) (qe qf:Option D) {α:Type} (κ:Fl->M α):(evK Rs Γ C 40).s a48 (nth z2_F.body 3) [qe,some qa,qf,some qb,some qc,some qd] κ=bind (b8 .Eq qd (.str "out")) λx1=>bind (asB x1) λz2=>if z2=true then (bind (C 2 [qc,qa,(.str "ask")]) λx3=>κ (.rt (.tup [qa,qb,x3]))) else (κ (.nx [qe,some qa,qf,some qb,some qc,some qd])):=by kernel_rfl
theorem c4n (C:Cf) (qa qb qc qd qe:D) (qf:Option D) {α:Type} (κ:Fl->M α):(evK Rs Γ C 40).s a48 (nth z2_F.body 4) [qf,some qa,some qb,some qc,some qd,some qe] κ=bind (b8 .Eq qe (.str "ask")) λx1=>bind (asB x1) λz2=>if z2=true then (bind (j5 qc) λz3=>if z3=true then (bind (C 2 [qd,qa,(.str "right")]) λx4=>κ (.rt (.tup [qb,qc,x4]))) else (bind (C 2 [qd,qa,(.str "close")]) λx5=>κ (.rt (.tup [qb,qc,x5])))) else (κ (.nx [qf,some qa,some qb,some qc,some qd,some qe])):=by kernel_rfl
theorem d0l (C:Cf) (qa qb qc qd:D) (qe qf:Option D) {α:Type} (κ:Fl->M α):(evK Rs Γ C 40).s a48 (nth z2_F.body 5) [qe,some qa,some qb,qf,some qc,some qd] κ=bind (b8 .Eq qd (.str "close")) λx1=>bind (asB x1) λz2=>if z2=true then (bind (C 2 [qc,qa,(.str "look")]) λx3=>κ (.rt (.tup [qb,(.bl true),x3]))) else (κ (.nx [qe,some qa,some qb,qf,some qc,some qd])):=by kernel_rfl
theorem d1a (C:Cf) (qa qb qc qd:D) (qe qf:Option D) {α:Type} (κ:Fl->M α):(evK Rs Γ C 40).s a48 (nth z2_F.body 6) [qe,some qa,some qb,some qc,some qd,qf] κ=bind (b8 .Eq qb qa) λx1=>bind (asB x1) λz2=>if z2=true then (bind (C 2 [qd,qa,(.str "holds")]) λx3=>κ (.rt (.tup [qb,qc,x3]))) else (bind (C 2 [qd,qa,(.str "down")]) λx4=>κ (.rt (.tup [qb,qc,x4]))):=by kernel_rfl
theorem b8x (C:Cf) (qa:D):runK Rs Γ C b45 [qa]=bind (ixD qa (.int 0)) λx1=>bind (C 9 [x1]) λx2=>ret x2:=by kernel_rfl
theorem b6t (C:Cf) (qa:D):runK Rs Γ C b2p [qa]=bind (tupOf qa) λ_=>bind (countT qa [(.str "down")]) λx1=>bind (tupOf qa) λ_=>bind (countT qa [(.str "right")]) λx2=>ret (.tup [x1,x2]):=by kernel_rfl
theorem b9z (C:Cf) (qa:D):runK Rs Γ C b27 [qa]=bind (b6r qa) λx1=>bind (C 3 [x1]) λx2=>bind (ixD qa (.int 0)) λx3=>bind (f9 x2 x3) λx4=>ret x4:=by kernel_rfl
noncomputable def G5:Lc:=y4 z20_F
theorem a26 (C:Cf) (qa qb qc:D):runK Rs Γ C z20_F [qa,qb,qc]=k4 (evK Rs Γ C 40) G5 z20_F.body [some qa,some qb,some qc,none,none,none,none,none,none,none,none] endD:=by kernel_rfl
theorem a3f:z20_F.body=[nth z20_F.body 0,nth z20_F.body 1,nth z20_F.body 2,nth z20_F.body 3,nth z20_F.body 4,nth z20_F.body 5,nth z20_F.body 6]:=by kernel_rfl
theorem b4k (C:Cf) (qa:D) (qb qc qd qe qf qg qh qi qj qk:Option D) {α:Type} (κ:Fl->M α):(evK Rs Γ C 40).s G5 (nth z20_F.body 0) [qb,some qa,qc,qd,qe,qf,qg,qh,qi,qj,qk] κ=bind (A4 (m9 [3,4]) qa [qb,some qa,qc,qd,qe,qf,qg,qh,qi,qj,qk]) κ:=by kernel_rfl
theorem b39 (C:Cf) (qa qb:D) (qc qd qe qf qg qh qi qj qk:Option D) {α:Type} (κ:Fl->M α):(evK Rs Γ C 40).s G5 (nth z20_F.body 1) [qc,qd,some qa,qe,some qb,qf,qg,qh,qi,qj,qk] κ=bind (ixD qb qa) λx1=>bind (ixD x1 (.int 0)) λx2=>κ (.nx [qc,qd,some qa,qe,some qb,some x2,qg,qh,qi,qj,qk]):=by kernel_rfl
theorem b2w (C:Cf) (qa:D) (qb qc qd qe qf qg qh qi qj qk:Option D) {α:Type} (κ:Fl->M α):(evK Rs Γ C 40).s G5 (nth z20_F.body 2) [qb,qc,qd,qe,qf,some qa,qg,qh,qi,qj,qk] κ=bind (C 9 [qa]) λx1=>bind (C 10 [x1]) λx2=>κ (.nx [qb,qc,qd,qe,qf,some qa,some x2,qh,qi,qj,qk]):=by kernel_rfl
theorem b15 (C:Cf) (qa qb qc qd:D) (qe qf qg qh qi qj qk:Option D) {α:Type} (κ:Fl->M α):(evK Rs Γ C 40).s G5 (nth z20_F.body 3) [some qa,some qb,some qc,qe,qf,qg,some qd,qh,qi,qj,qk] κ=bind (C 13 [qa,qb,qd]) λx1=>bind (C 7 [x1,qc]) λx2=>bind (A4 (m9 [7,8,9]) x2 [some qa,some qb,some qc,qe,qf,qg,some qd,qh,qi,qj,qk]) κ:=by kernel_rfl
theorem c07 (C:Cf) (qa qb qc:D) (qd qe qf qg qh qi qj qk:Option D) {α:Type} (κ:Fl->M α):(evK Rs Γ C 40).s G5 (nth z20_F.body 4) [qd,qe,some qa,qf,qg,some qb,qh,qi,qj,some qc,qk] κ=bind (ixD qc qa) λx1=>bind (C 12 [qb,x1]) λx2=>κ (.nx [qd,qe,some qa,qf,qg,some qb,qh,qi,qj,some qc,some x2]):=by kernel_rfl
theorem c1r (C:Cf) (qa qb qc:D) (qd qe qf qg qh qi qj qk:Option D) {α:Type} (κ:Fl->M α):(evK Rs Γ C 40).s G5 (nth z20_F.body 5) [some qa,qd,some qb,qe,qf,qg,qh,qi,qj,qk,some qc] κ=bind (ixD qc (.int 0)) λx1=>bind (j8 x1) λx2=>bind (b8 .GtE x2 qa) λx3=>bind (asB x3) λz4=>if z4=true then (bind (E4 1 ["hand"] [qb]) λx5=>bind (y3 x5) (fin κ)) else (κ (.nx [some qa,qd,some qb,qe,qf,qg,qh,qi,qj,qk,some qc])):=by kernel_rfl
theorem c9g (C:Cf) (qa qb qc qd qe qf qg:D) (qh qi qj qk:Option D) {α:Type} (κ:Fl->M α):(evK Rs Γ C 40).s G5 (nth z20_F.body 6) [qh,qi,some qa,some qb,some qc,qj,some qd,some qe,some qf,qk,some qg] κ=bind (C 2 [qb,qd,(.tup [qe,qf])]) λx1=>bind (C 2 [qc,qa,qg]) λx2=>κ (.rt (.tup [x1,x2])):=by kernel_rfl
theorem b5k (C:Cf) (qa qb:D):runK Rs Γ C b7r [qa,qb]=bind (b8 .In qb (.tup [(.str "right"),(.str "down")])) λx1=>bind (asB x1) λz2=>if z2=true then (bind (f9 qa (.tup [qb])) λx3=>ret (.tup [x3,(.str "out")])) else (ret (.tup [qa,qb])):=by kernel_rfl
noncomputable def a8j:Lc:=y4 z22_F
theorem b7o (C:Cf) (qa qb qc:D):runK Rs Γ C z22_F [qa,qb,qc]=k4 (evK Rs Γ C 40) a8j z22_F.body [some qa,some qb,some qc,none,none,none,none] endD:=by kernel_rfl
theorem b7x:z22_F.body=[nth z22_F.body 0,nth z22_F.body 1,nth z22_F.body 2]:=by kernel_rfl
theorem c8x (C:Cf) (qa:D) (qb qc qd qe qf qg:Option D) {α:Type} (κ:Fl->M α):(evK Rs Γ C 40).s a8j (nth z22_F.body 0) [qb,some qa,qc,qd,qe,qf,qg] κ=bind (A4 (m9 [3,4]) qa [qb,some qa,qc,qd,qe,qf,qg]) κ:=by kernel_rfl
theorem c8y (C:Cf) (qa qb:D) (qc qd qe qf qg:Option D) {α:Type} (κ:Fl->M α):(evK Rs Γ C 40).s a8j (nth z22_F.body 1) [qc,qd,some qa,some qb,qe,qf,qg] κ=bind (ixD qb qa) λx1=>bind (A4 (m9 [5,6]) x1 [qc,qd,some qa,some qb,qe,qf,qg]) κ:=by kernel_rfl
theorem c7e (C:Cf) (qa qb qc qd:D) (qe qf qg:Option D) {α:Type} (κ:Fl->M α):(evK Rs Γ C 40).s a8j (nth z22_F.body 2) [qe,qf,some qa,qg,some qb,some qc,some qd] κ=bind (nx (bind (y9 qb) λsm2=>i4 sm2.1 (λd1=>ret true) (λd1=>bind (C 14 [d1,qa]) λx3=>ret x3) sm2.2 0 [])) λl4=>bind (J7 (.lst l4)) λx5=>κ (.rt (.tup [qc,qd,x5])):=by kernel_rfl
noncomputable def a14:Lc:=y4 z30_F
theorem b9r (C:Cf) (qa qb:D):runK Rs Γ C z30_F [qa,qb]=k4 (evK Rs Γ C 40) a14 z30_F.body [some qa,some qb,none,none,none,none] endD:=by kernel_rfl
theorem b9x:z30_F.body=[nth z30_F.body 0,nth z30_F.body 1,nth z30_F.body 2]:=by kernel_rfl
theorem c6m (C:Cf) (qa:D) (qb qc qd qe qf:Option D) {α:Type} (κ:Fl->M α):(evK Rs Γ C 40).s a14 (nth z30_F.body 0) [some qa,qb,qc,qd,qe,qf] κ=bind (A4 (m9 [2,3]) qa [some qa,qb,qc,qd,qe,qf]) κ:=by kernel_rfl
noncomputable def Y3:List Stmt:=v5 (nth z30_F.body 1)
noncomputable def a59 (C:Cf):L3.Env->M Fl:=λρ'=>k4 (evK Rs Γ C 39) a14 Y3 ρ' ret
theorem d0s (C:Cf) (qa:D) (qb qc qd qe qf:Option D) {α:Type} (κ:Fl->M α):(evK Rs Γ C 40).s a14 (nth z30_F.body 1) [qb,qc,some qa,qd,qe,qf] κ=bind (a8f qa) λsm1=>bind (y8 sm1.1 (m9 [4,5]) (a59 C) sm1.2 0 [qb,qc,some qa,qd,qe,qf]) κ:=by kernel_rfl
theorem c9w (C:Cf) (qa qb qc:D) (qd qe qf:Option D) {α:Type} (κ:Fl->M α):(evK Rs Γ C 40).s a14 (nth z30_F.body 2) [qd,some qa,some qb,some qc,qe,qf] κ=bind (C 9 [qb]) λx1=>bind (C 10 [x1]) λx2=>bind (b8 .Eq x2 qa) λx3=>bind (asB x3) λz4=>if z4=true then (κ (.rt qc)) else (κ (.rt (.str "out"))):=by kernel_rfl
theorem a4l:Y3=[nth Y3 0]:=by kernel_rfl
theorem b05 (C:Cf) (qa qb qc qd:D) (qe qf:Option D) {α:Type} (κ:Fl->M α):(evK Rs Γ C 39).s a14 (nth Y3 0) [qe,some qa,some qb,qf,some qc,some qd] κ=bind (B6 qc) λn1=>bind (slD qb none n1) λx2=>bind (C 9 [x2]) λx3=>bind (C 10 [x3]) λx4=>bind (b8 .Eq x4 qa) λx5=>bind (asB x5) λz6=>if z6=true then (κ (.rt qd)) else (κ (.nx [qe,some qa,some qb,qf,some qc,some qd])):=by kernel_rfl
noncomputable def a2a:Lc:=y4 z21_F
theorem b6s (C:Cf) (qa qb qc:D):runK Rs Γ C z21_F [qa,qb,qc]=k4 (evK Rs Γ C 40) a2a z21_F.body [some qa,some qb,some qc,none] endD:=by kernel_rfl
theorem b67:z21_F.body=[nth z21_F.body 0,nth z21_F.body 1,nth z21_F.body 2]:=by kernel_rfl
theorem c95 (C:Cf) (qa qb qc:D) (qd:Option D) {α:Type} (κ:Fl->M α):(evK Rs Γ C 40).s a2a (nth z21_F.body 0) [some qa,some qb,some qc,qd] κ=bind (C 16 [qa,qb,qc]) λx1=>bind (j5 x1) λz2=>if (!z2)=true then (bind (E4 2 ["word","at"] [(.str "shape"),(.int 0)]) λx3=>bind (y3 x3) (fin κ)) else (κ (.nx [some qa,some qb,some qc,qd])):=by kernel_rfl
noncomputable def Y0:List Stmt:=v5 (nth z21_F.body 1)
noncomputable def a5w (C:Cf):L3.Env->M Fl:=λρ'=>k4 (evK Rs Γ C 39) a2a Y0 ρ' ret
theorem c7w (C:Cf) (qa:D) (qb qc qd:Option D) {α:Type} (κ:Fl->M α):(evK Rs Γ C 40).s a2a (nth z21_F.body 1) [some qa,qb,qc,qd] κ=bind (C 3 [qa]) λx1=>bind (u5 [x1]) λsm2=>bind (y8 sm2.1 (λd ρ=>some (ρ.set 3 (some d))) (a5w C) sm2.2 0 [some qa,qb,qc,qd]) κ:=by kernel_rfl
theorem c8t (C:Cf) (qa qb qc qd:Option D) {α:Type} (κ:Fl->M α):(evK Rs Γ C 40).s a2a (nth z21_F.body 2) [qa,qb,qc,qd] κ=κ (.rt (.bl true)):=by kernel_rfl
theorem a5u:Y0=[nth Y0 0]:=by kernel_rfl
theorem a9t (C:Cf) (qa qb qc:D) (qd:Option D) {α:Type} (κ:Fl->M α):(evK Rs Γ C 39).s a2a (nth Y0 0) [some qa,qd,some qb,some qc] κ=bind (C 13 [qa,qb,qc]) λx1=>bind (C 20 [x1,qc]) λx2=>κ (.nx [some qa,qd,some qb,some qc]):=by kernel_rfl
noncomputable def b5t:Lc:=y4 z1_F
theorem c48 (C:Cf) (qa qb qc:D):runK Rs Γ C z1_F [qa,qb,qc]=k4 (evK Rs Γ C 40) b5t z1_F.body [some qa,some qb,some qc,none,none] endD:=by kernel_rfl
theorem c4o:z1_F.body=[nth z1_F.body 0,nth z1_F.body 1,nth z1_F.body 2,nth z1_F.body 3]:=by kernel_rfl
theorem d2e (C:Cf) (qa:D) (qb qc qd qe:Option D) {α:Type} (κ:Fl->M α):(evK Rs Γ C 40).s b5t (nth z1_F.body 0) [qb,qc,some qa,qd,qe] κ=bind (C 1 [qa,(.int 2)]) λx1=>bind (j5 x1) λz2=>if (!z2)=true then (κ (.rt (.bl false))) else (κ (.nx [qb,qc,some qa,qd,qe])):=by kernel_rfl
theorem d03 (C:Cf) (qa:D) (qb qc qd qe:Option D) {α:Type} (κ:Fl->M α):(evK Rs Γ C 40).s b5t (nth z1_F.body 1) [qb,qc,some qa,qd,qe] κ=bind (A4 (m9 [3,4]) qa [qb,qc,some qa,qd,qe]) κ:=by kernel_rfl
theorem d01 (C:Cf) (qa qb qc qd:D) (qe:Option D) {α:Type} (κ:Fl->M α):(evK Rs Γ C 40).s b5t (nth z1_F.body 2) [some qa,some qb,qe,some qc,some qd] κ=bind (C 3 [qa]) λx1=>bind (C 1 [qc,x1]) λx2=>bind (j5 x2) λz3=>if (!z3)=true then (κ (.rt (.bl false))) else (bind (C 1 [qd,qb]) λx4=>bind (j5 x4) λz5=>if (!z5)=true then (κ (.rt (.bl false))) else (κ (.nx [some qa,some qb,qe,some qc,some qd]))):=by kernel_rfl
theorem d2u (C:Cf) (qa qb qc qd:D) (qe:Option D) {α:Type} (κ:Fl->M α):(evK Rs Γ C 40).s b5t (nth z1_F.body 3) [some qa,some qb,qe,some qc,some qd] κ=bind (nx (bind (y9 qc) λsm2=>i4 sm2.1 (λd1=>ret true) (λd1=>bind (C 17 [qb,d1]) λx3=>ret x3) sm2.2 0 [])) λl4=>bind (a3g (.lst l4)) λx5=>bind (j5 x5) λc6=>if c6=true then (bind (nx (bind (y9 qd) λsm8=>i4 sm8.1 (λd7=>ret true) (λd7=>bind (C 18 [qa,d7]) λx9=>ret x9) sm8.2 0 [])) λl10=>bind (a3g (.lst l10)) λx11=>κ (.rt x11)) else (κ (.rt x5)):=by kernel_rfl
theorem b9o (C:Cf) (qa qb:D):runK Rs Γ C b40 [qa,qb]=bind (C 1 [qb,(.int 2)]) λx1=>bind (j5 x1) λc2=>if c2=true then (bind (ixD qb (.int 0)) λx3=>bind (C 5 [qa,x3]) λx4=>bind (j5 x4) λc5=>if c5=true then (bind (ixD qb (.int 1)) λx6=>bind (X7 "bool" (λ_=>false) x6) λx7=>ret x7) else (ret x4)) else (ret x1):=by kernel_rfl
theorem c3x (C:Cf) (qa qb:D):runK Rs Γ C c5f [qa,qb]=bind (C 1 [qb,(.int 2)]) λx1=>bind (j5 x1) λc2=>if c2=true then (bind (ixD qb (.int 0)) λx3=>bind (C 19 [qa,x3]) λx4=>bind (j5 x4) λc5=>if c5=true then (bind (ixD qb (.int 1)) λx6=>bind (b8 .In x6 (.tup [(.str "out"),(.str "ask"),(.str "close"),(.str "look"),(.str "holds")])) λx7=>ret x7) else (ret x4)) else (ret x1):=by kernel_rfl
theorem b7i (C:Cf) (qa qb:D):runK Rs Γ C b6q [qa,qb]=bind (X7 "tuple" (λ_=>false) qb) λx1=>bind (j5 x1) λc2=>if c2=true then (bind (j8 qb) λx3=>bind (b8 .Lt x3 qa) λx4=>bind (j5 x4) λc5=>if c5=true then (bind (nx (bind (y9 qb) λsm7=>i4 sm7.1 (λd6=>ret true) (λd6=>bind (b8 .In d6 (.tup [(.str "right"),(.str "down")])) λx8=>ret x8) sm7.2 0 [])) λl9=>bind (a3g (.lst l9)) λx10=>ret x10) else (ret x4)) else (ret x1):=by kernel_rfl
noncomputable def R5:Lc:=y4 z12_F
theorem b9a (C:Cf) (qa qb:D):runK Rs Γ C z12_F [qa,qb]=k4 (evK Rs Γ C 40) R5 z12_F.body [some qa,some qb,none,none,none] endD:=by kernel_rfl
theorem c0o:z12_F.body=[nth z12_F.body 0,nth z12_F.body 1,nth z12_F.body 2,nth z12_F.body 3,nth z12_F.body 4,nth z12_F.body 5]:=by kernel_rfl
theorem c9t (C:Cf) (qa:D) (qb qc qd qe:Option D) {α:Type} (κ:Fl->M α):(evK Rs Γ C 40).s R5 (nth z12_F.body 0) [some qa,qb,qc,qd,qe] κ=bind (A4 (m9 [2,3,4]) qa [some qa,qb,qc,qd,qe]) κ:=by kernel_rfl
theorem c8j (C:Cf) (qa qb qc:D) (qd qe:Option D) {α:Type} (κ:Fl->M α):(evK Rs Γ C 40).s R5 (nth z12_F.body 1) [qd,some qa,qe,some qb,some qc] κ=bind (j5 qb) λz1=>if (!z1)=true then (bind (C 22 [qc,(.tup [(.str "look"),(.str "holds"),(.str "right"),(.str "down")])]) λx2=>bind (j5 x2) λz3=>if z3=true then (bind (E4 2 ["word","at"] [(.str "open"),qa]) λx4=>bind (y3 x4) (fin κ)) else (κ (.nx [qd,some qa,qe,some qb,some qc]))) else (κ (.nx [qd,some qa,qe,some qb,some qc])):=by kernel_rfl
theorem c1y (C:Cf) (qa qb qc:D) (qd qe:Option D) {α:Type} (κ:Fl->M α):(evK Rs Γ C 40).s R5 (nth z12_F.body 2) [qd,some qa,qe,some qb,some qc] κ=bind (j5 qb) λz1=>if z1=true then (bind (C 22 [qc,(.tup [(.str "look"),(.str "holds"),(.str "down")])]) λx2=>bind (j5 x2) λz3=>if (!z3)=true then (bind (E4 2 ["word","at"] [(.str "closed"),qa]) λx4=>bind (y3 x4) (fin κ)) else (κ (.nx [qd,some qa,qe,some qb,some qc]))) else (κ (.nx [qd,some qa,qe,some qb,some qc])):=by kernel_rfl
theorem d0u (C:Cf) (qa qb qc:D) (qd qe:Option D) {α:Type} (κ:Fl->M α):(evK Rs Γ C 40).s R5 (nth z12_F.body 3) [qd,some qa,some qb,qe,some qc] κ=bind (b8 .Is qb .non) λx1=>bind (asB x1) λz2=>if z2=true then (bind (tupOf qc) λ_=>bind (countT qc [(.str "out")]) λx3=>bind (j8 qc) λx4=>bind (b8 .Lt x3 x4) λx5=>bind (asB x5) λz6=>if z6=true then (bind (E4 2 ["word","at"] [(.str "free"),qa]) λx7=>bind (y3 x7) (fin κ)) else (κ (.nx [qd,some qa,some qb,qe,some qc]))) else (κ (.nx [qd,some qa,some qb,qe,some qc])):=by kernel_rfl
theorem c1g (C:Cf) (qa qb qc:D) (qd qe:Option D) {α:Type} (κ:Fl->M α):(evK Rs Γ C 40).s R5 (nth z12_F.body 4) [qd,some qa,some qb,qe,some qc] κ=bind (b8 .IsNot qb .non) λx1=>bind (asB x1) λz2=>if z2=true then (bind (ixD qc qb) λx3=>bind (C 21 [x3,qc,qa]) λx4=>κ (.nx [qd,some qa,some qb,qe,some qc])) else (κ (.nx [qd,some qa,some qb,qe,some qc])):=by kernel_rfl
theorem c6y (C:Cf) (qa qb:D) (qc qd qe:Option D) {α:Type} (κ:Fl->M α):(evK Rs Γ C 40).s R5 (nth z12_F.body 5) [qc,some qa,qd,qe,some qb] κ=bind (tupOf qb) λ_=>bind (countT qb [(.str "holds")]) λx1=>bind (b8 .Gt x1 (.int 1)) λx2=>bind (asB x2) λz3=>if z3=true then (bind (E4 2 ["word","at"] [(.str "twice"),qa]) λx4=>bind (y3 x4) (fin κ)) else (κ (.nx [qc,some qa,qd,qe,some qb])):=by kernel_rfl
noncomputable def c4r:Lc:=y4 z5_F
theorem c4q (C:Cf) (qa qb qc:D):runK Rs Γ C z5_F [qa,qb,qc]=k4 (evK Rs Γ C 40) c4r z5_F.body [some qa,some qb,some qc] endD:=by kernel_rfl
theorem c5u:z5_F.body=[nth z5_F.body 0,nth z5_F.body 1]:=by kernel_rfl
theorem d19 (C:Cf) (qa qb:D) (qc:Option D) {α:Type} (κ:Fl->M α):(evK Rs Γ C 40).s c4r (nth z5_F.body 0) [some qa,qc,some qb] κ=bind (b8 .In qa (.tup [(.str "out"),(.str "down")])) λx1=>bind (asB x1) λz2=>if z2=true then (bind (E4 2 ["word","at"] [(.str "mark"),qb]) λx3=>bind (y3 x3) (fin κ)) else (κ (.nx [some qa,qc,some qb])):=by kernel_rfl
theorem d2g (C:Cf) (qa qb qc:D) {α:Type} (κ:Fl->M α):(evK Rs Γ C 40).s c4r (nth z5_F.body 1) [some qa,some qb,some qc] κ=bind (b8 .In qa (.tup [(.str "close"),(.str "look")])) λx1=>bind (asB x1) λz2=>if z2=true then (bind (b8 .In (.str "holds") qb) λx3=>bind (asB x3) λz4=>if z4=true then (bind (E4 2 ["word","at"] [(.str "late"),qc]) λx5=>bind (y3 x5) (fin κ)) else (κ (.nx [some qa,some qb,some qc]))) else (κ (.nx [some qa,some qb,some qc])):=by kernel_rfl
theorem b7c (C:Cf) (qa qb:D):runK Rs Γ C b2a [qa,qb]=bind (nx (bind (y9 qa) λsm2=>i4 sm2.1 (λd1=>ret true) (λd1=>bind (b8 .In d1 qb) λx3=>ret x3) sm2.2 0 [])) λl4=>bind (b3p (.lst l4)) λx5=>ret x5:=by kernel_rfl
noncomputable def a81:Lc:=y4 z39_F
theorem b60 (C:Cf) (qa qb:D):runK Rs Γ C z39_F [qa,qb]=k4 (evK Rs Γ C 40) a81 z39_F.body [some qa,some qb,none,none,none] endD:=by kernel_rfl
theorem c0a:z39_F.body=[nth z39_F.body 0,nth z39_F.body 1,nth z39_F.body 2]:=by kernel_rfl
theorem c68 (C:Cf) (qa:D) (qb qc qd qe:Option D) {α:Type} (κ:Fl->M α):(evK Rs Γ C 40).s a81 (nth z39_F.body 0) [qb,some qa,qc,qd,qe] κ=bind (A4 (m9 [2,3]) qa [qb,some qa,qc,qd,qe]) κ:=by kernel_rfl
theorem c7q (C:Cf) (qa qb qc:D) (qd qe:Option D) {α:Type} (κ:Fl->M α):(evK Rs Γ C 40).s a81 (nth z39_F.body 1) [some qa,qd,some qb,some qc,qe] κ=bind (nx (bind (ixD qa (.int 2)) λx2=>bind (j8 x2) λx3=>bind (C 24 [qb,x3]) λx4=>bind (y9 x4) λsm5=>i4 sm5.1 (λd1=>ret true) (λd1=>bind (C 25 [qc,qa,d1]) λx6=>ret x6) sm5.2 0 [])) λl7=>κ (.nx [some qa,qd,some qb,some qc,some (.lst l7)]):=by kernel_rfl
theorem c9r (C:Cf) (qa qb:D) (qc qd qe:Option D) {α:Type} (κ:Fl->M α):(evK Rs Γ C 40).s a81 (nth z39_F.body 2) [qc,qd,some qa,qe,some qb] κ=bind (b8 .Eq qa (.str "some")) λx1=>bind (asB x1) λz2=>if z2=true then (bind (b3p qb) λx3=>κ (.rt x3)) else (bind (a3g qb) λx4=>κ (.rt x4)):=by kernel_rfl
theorem a6x (C:Cf) (qa qb:D):runK Rs Γ C b53 [qa,qb]=bind (b8 .Eq qa (.str "plain")) λx1=>bind (asB x1) λz2=>if z2=true then (ret (.lst [(.tup [])])) else (bind (b8 .Eq qa (.str "pairs")) λx3=>bind (asB x3) λz4=>if z4=true then (bind (nx (bind (u5 [qb]) λsm7=>W0 sm7.1 (λd5=>ret true) (λd5=>bind (u5 [qb]) λsm8=>ret sm8) (λd5 d6=>bind (b8 .NotEq d5 d6) λx9=>bind (asB x9) λz10=>ret z10) (λd5 d6=>ret (.tup [d5,d6])) sm7.2 0 [])) λl11=>ret (.lst l11)) else (bind (nx (bind (u5 [qb]) λsm13=>i4 sm13.1 (λd12=>ret true) (λd12=>ret (.tup [d12])) sm13.2 0 [])) λl14=>ret (.lst l14))):=by kernel_rfl
noncomputable def C4:Lc:=y4 says_F
theorem b4u (C:Cf) (qa qb qc:D):runK Rs Γ C says_F [qa,qb,qc]=k4 (evK Rs Γ C 40) C4 says_F.body [some qa,some qb,some qc,none,none,none,none] endD:=by kernel_rfl
theorem b1t:says_F.body=[nth says_F.body 0,nth says_F.body 1,nth says_F.body 2,nth says_F.body 3,nth says_F.body 4,nth says_F.body 5,nth says_F.body 6,nth says_F.body 7,nth says_F.body 8]:=by kernel_rfl
theorem c5d (C:Cf) (qa:D) (qb qc qd qe qf qg:Option D) {α:Type} (κ:Fl->M α):(evK Rs Γ C 40).s C4 (nth says_F.body 0) [qb,some qa,qc,qd,qe,qf,qg] κ=bind (A4 (m9 [3,4,5]) qa [qb,some qa,qc,qd,qe,qf,qg]) κ:=by kernel_rfl
theorem c4b (C:Cf) (qa:D) (qb qc qd qe qf qg:Option D) {α:Type} (κ:Fl->M α):(evK Rs Γ C 40).s C4 (nth says_F.body 1) [some qa,qb,qc,qd,qe,qf,qg] κ=bind (ixD qa (.int 0)) λx1=>κ (.nx [some qa,qb,qc,qd,qe,qf,some x1]):=by kernel_rfl
theorem b2k (C:Cf) (qa qb qc qd:D) (qe qf qg:Option D) {α:Type} (κ:Fl->M α):(evK Rs Γ C 40).s C4 (nth says_F.body 2) [some qa,qe,some qb,qf,qg,some qc,some qd] κ=bind (b8 .Eq qd (.str "at")) λx1=>bind (asB x1) λz2=>if z2=true then (bind (ixD qa (.int 1)) λx3=>bind (ixD qb x3) λx4=>bind (ixD qc x4) λx5=>bind (ixD qa (.int 2)) λx6=>bind (b8 .In x5 x6) λx7=>κ (.rt x7)) else (κ (.nx [some qa,qe,some qb,qf,qg,some qc,some qd])):=by kernel_rfl
theorem b4w (C:Cf) (qa qb qc qd:D) (qe qf qg:Option D) {α:Type} (κ:Fl->M α):(evK Rs Γ C 40).s C4 (nth says_F.body 3) [some qa,qe,some qb,some qc,qf,qg,some qd] κ=bind (b8 .Eq qd (.str "mark")) λx1=>bind (asB x1) λz2=>if z2=true then (bind (ixD qa (.int 1)) λx3=>bind (ixD qb x3) λx4=>bind (b8 .Eq qc x4) λx5=>κ (.rt x5)) else (κ (.nx [some qa,qe,some qb,some qc,qf,qg,some qd])):=by kernel_rfl
theorem b4j (C:Cf) (qa qb:D) (qc qd qe qf qg:Option D) {α:Type} (κ:Fl->M α):(evK Rs Γ C 40).s C4 (nth says_F.body 4) [qc,qd,qe,some qa,qf,qg,some qb] κ=bind (b8 .Eq qb (.str "free")) λx1=>bind (asB x1) λz2=>if z2=true then (bind (b8 .Is qa .non) λx3=>κ (.rt x3)) else (κ (.nx [qc,qd,qe,some qa,qf,qg,some qb])):=by kernel_rfl
theorem b1y (C:Cf) (qa qb:D) (qc qd qe qf qg:Option D) {α:Type} (κ:Fl->M α):(evK Rs Γ C 40).s C4 (nth says_F.body 5) [qc,qd,qe,qf,some qa,qg,some qb] κ=bind (b8 .Eq qb (.str "closed")) λx1=>bind (asB x1) λz2=>if z2=true then (κ (.rt qa)) else (κ (.nx [qc,qd,qe,qf,some qa,qg,some qb])):=by kernel_rfl
theorem b1r (C:Cf) (qa qb qc qd:D) (qe qf qg:Option D) {α:Type} (κ:Fl->M α):(evK Rs Γ C 40).s C4 (nth says_F.body 6) [some qa,some qb,some qc,qe,qf,qg,some qd] κ=bind (b8 .Eq qd (.str "not")) λx1=>bind (asB x1) λz2=>if z2=true then (bind (ixD qa (.int 1)) λx3=>bind (C 25 [x3,qb,qc]) λx4=>bind (j5 x4) λc5=>κ (.rt (.bl (!c5)))) else (κ (.nx [some qa,some qb,some qc,qe,qf,qg,some qd])):=by kernel_rfl
theorem b51 (C:Cf) (qa qb qc qd:D) (qe qf qg:Option D) {α:Type} (κ:Fl->M α):(evK Rs Γ C 40).s C4 (nth says_F.body 7) [some qa,some qb,some qc,qe,qf,qg,some qd] κ=bind (b8 .Eq qd (.str "both")) λx1=>bind (asB x1) λz2=>if z2=true then (bind (ixD qa (.int 1)) λx3=>bind (C 25 [x3,qb,qc]) λx4=>bind (j5 x4) λc5=>if c5=true then (bind (ixD qa (.int 2)) λx6=>bind (C 25 [x6,qb,qc]) λx7=>κ (.rt x7)) else (κ (.rt x4))) else (κ (.nx [some qa,some qb,some qc,qe,qf,qg,some qd])):=by kernel_rfl
theorem c4k (C:Cf) (qa qb qc:D) (qd qe qf qg:Option D) {α:Type} (κ:Fl->M α):(evK Rs Γ C 40).s C4 (nth says_F.body 8) [some qa,some qb,some qc,qd,qe,qf,qg] κ=bind (ixD qa (.int 1)) λx1=>bind (C 25 [x1,qb,qc]) λx2=>bind (j5 x2) λc3=>if c3=true then (κ (.rt x2)) else (bind (ixD qa (.int 2)) λx4=>bind (C 25 [x4,qb,qc]) λx5=>κ (.rt x5)):=by kernel_rfl
theorem b9w (C:Cf) (qa:D):runK Rs Γ C b57 [qa]=bind (slD qa none (some 63)) λx1=>bind (a7i [((.str "cells"),x1),((.str "at"),(.int 0)),((.str "left"),(.int 0)),((.str "turn"),(.int 0))]) λx2=>ret x2:=by kernel_rfl
theorem b72 (C:Cf) (p x:D):runK Rs Γ C b3v [p,x]=a8g p x:=by kernel_rfl
noncomputable def K0:Lc:=y4 z31_F
theorem b8q (C:Cf) (qa qb:D):runK Rs Γ C z31_F [qa,qb]=k4 (evK Rs Γ C 40) K0 z31_F.body [some qa,some qb,none,none,none,none,none] endD:=by kernel_rfl
theorem b6x:z31_F.body=[nth z31_F.body 0,nth z31_F.body 1,nth z31_F.body 2,nth z31_F.body 3,nth z31_F.body 4,nth z31_F.body 5,nth z31_F.body 6]:=by kernel_rfl
theorem c64 (C:Cf) (qa:D) (qb qc qd qe qf qg:Option D) {α:Type} (κ:Fl->M α):(evK Rs Γ C 40).s K0 (nth z31_F.body 0) [some qa,qb,qc,qd,qe,qf,qg] κ=bind (A4 (m9 [2,3,4]) qa [some qa,qb,qc,qd,qe,qf,qg]) κ:=by kernel_rfl
theorem c66 (C:Cf) (qa qb:D) (qc qd qe qf qg:Option D) {α:Type} (κ:Fl->M α):(evK Rs Γ C 40).s K0 (nth z31_F.body 1) [qc,some qa,qd,qe,some qb,qf,qg] κ=bind (ixD qb qa) λx1=>κ (.nx [qc,some qa,qd,qe,some qb,some x1,qg]):=by kernel_rfl
theorem d0i (C:Cf) (qa qb:D) (qc qd qe qf qg:Option D) {α:Type} (κ:Fl->M α):(evK Rs Γ C 40).s K0 (nth z31_F.body 2) [qc,qd,qe,some qa,qf,some qb,qg] κ=bind (j5 qa) λz1=>if z1=true then (bind (a7i [((.str "out"),(.str "ask")),((.str "ask"),(.str "right")),((.str "close"),(.str "look")),((.str "look"),(.str "down"))]) λx2=>bind (dctOf x2) λ_=>bind (getDD x2 [qb]) λx3=>κ (.nx [qc,qd,qe,some qa,qf,some qb,some x3])) else (bind (a7i [((.str "out"),(.str "ask")),((.str "ask"),(.str "close")),((.str "close"),(.str "look")),((.str "look"),(.str "down"))]) λx4=>bind (dctOf x4) λ_=>bind (getDD x4 [qb]) λx5=>κ (.nx [qc,qd,qe,some qa,qf,some qb,some x5])):=by kernel_rfl
theorem c69 (C:Cf) (qa qb qc:D) (qd qe qf qg:Option D) {α:Type} (κ:Fl->M α):(evK Rs Γ C 40).s K0 (nth z31_F.body 3) [qd,some qa,some qb,qe,qf,some qc,qg] κ=bind (b8 .Eq qc (.str "look")) λx1=>bind (asB x1) λz2=>if z2=true then (bind (b8 .IsNot qb .non) λx3=>bind (asB x3) λz4=>if z4=true then (bind (b8 .Eq qb qa) λx5=>bind (asB x5) λz6=>if z6=true then (κ (.nx [qd,some qa,some qb,qe,qf,some qc,some (.str "holds")])) else (κ (.nx [qd,some qa,some qb,qe,qf,some qc,qg]))) else (κ (.nx [qd,some qa,some qb,qe,qf,some qc,qg]))) else (κ (.nx [qd,some qa,some qb,qe,qf,some qc,qg])):=by kernel_rfl
theorem c09 (C:Cf) (qa:D) (qb qc qd qe qf qg:Option D) {α:Type} (κ:Fl->M α):(evK Rs Γ C 40).s K0 (nth z31_F.body 4) [qb,qc,qd,qe,qf,qg,some qa] κ=bind (b8 .Is qa .non) λx1=>bind (asB x1) λz2=>if z2=true then (κ (.rt .non)) else (κ (.nx [qb,qc,qd,qe,qf,qg,some qa])):=by kernel_rfl
theorem d0b (C:Cf) (qa qb qc:D) (qd qe qf qg:Option D) {α:Type} (κ:Fl->M α):(evK Rs Γ C 40).s K0 (nth z31_F.body 5) [qd,some qa,qe,qf,some qb,qg,some qc] κ=bind (B6 qa) λn1=>bind (slD qb none n1) λx2=>bind (f9 x2 (.tup [qc])) λx3=>bind (f9 qa (.int 1)) λx4=>bind (B6 x4) λn5=>bind (slD qb n5 none) λx6=>bind (f9 x3 x6) λx7=>κ (.nx [qd,some qa,qe,qf,some x7,qg,some qc]):=by kernel_rfl
theorem c62 (C:Cf) (qa qb qc qd qe:D) (qf qg:Option D) {α:Type} (κ:Fl->M α):(evK Rs Γ C 40).s K0 (nth z31_F.body 6) [qf,some qa,some qb,some qc,some qd,some qe,qg] κ=bind (b8 .Eq qe (.str "out")) λx1=>bind (asB x1) λz2=>if z2=true then (bind (j5 qc) λc3=>if c3=true then (κ (.rt (.tup [qa,qc,qd]))) else (bind (b8 .Eq qe (.str "close")) λx4=>κ (.rt (.tup [qa,x4,qd])))) else (bind (j5 qc) λc5=>if c5=true then (κ (.rt (.tup [qb,qc,qd]))) else (bind (b8 .Eq qe (.str "close")) λx6=>κ (.rt (.tup [qb,x6,qd])))):=by kernel_rfl
noncomputable def a2c:Lc:=y4 z35_F
theorem c0n (C:Cf) (qa:D):runK Rs Γ C z35_F [qa]=k4 (evK Rs Γ C 40) a2c z35_F.body [some qa,none,none] endD:=by kernel_rfl
theorem c0i:z35_F.body=[nth z35_F.body 0,nth z35_F.body 1,nth z35_F.body 2]:=by kernel_rfl
theorem c99 (C:Cf) (qa qb qc:Option D) {α:Type} (κ:Fl->M α):(evK Rs Γ C 40).s a2c (nth z35_F.body 0) [qa,qb,qc] κ=κ (.nx [qa,some (.lst []),qc]):=by kernel_rfl
noncomputable def Y4:List Stmt:=v5 (nth z35_F.body 1)
noncomputable def a6e (C:Cf):L3.Env->M Fl:=λρ'=>k4 (evK Rs Γ C 39) a2c Y4 ρ' ret
theorem c7i (C:Cf) (qa:D) (qb qc:Option D) {α:Type} (κ:Fl->M α):(evK Rs Γ C 40).s a2c (nth z35_F.body 1) [some qa,qb,qc] κ=bind (u5 [qa]) λsm1=>bind (y8 sm1.1 (λd ρ=>some (ρ.set 2 (some d))) (a6e C) sm1.2 0 [some qa,qb,qc]) κ:=by kernel_rfl
theorem c79 (C:Cf) (qa:D) (qb qc:Option D) {α:Type} (κ:Fl->M α):(evK Rs Γ C 40).s a2c (nth z35_F.body 2) [qb,some qa,qc] κ=κ (.rt qa):=by kernel_rfl
theorem a6g:Y4=[nth Y4 0]:=by kernel_rfl
theorem b0w (C:Cf) (qa qb:D) (qc:Option D) {α:Type} (κ:Fl->M α):(evK Rs Γ C 39).s a2c (nth Y4 0) [qc,some qa,some qb] κ=bind (nx (bind (f9 qb (.int 1)) λx2=>bind (u5 [x2]) λsm3=>i4 sm3.1 (λd1=>ret true) (λd1=>bind (a08 qb d1) λx4=>ret (.tup [d1,x4])) sm3.2 0 [])) λl5=>bind (f9 qa (.lst l5)) λx6=>κ (.nx [qc,some x6,some qb]):=by kernel_rfl
noncomputable def W4:Lc:=y4 z19_F
theorem b7j (C:Cf) (qa qb:D):runK Rs Γ C z19_F [qa,qb]=k4 (evK Rs Γ C 40) W4 z19_F.body [some qa,some qb,none,none,none] endD:=by kernel_rfl
theorem b61:z19_F.body=[nth z19_F.body 0,nth z19_F.body 1,nth z19_F.body 2]:=by kernel_rfl
theorem c88 (C:Cf) (qa qb qc qd qe:Option D) {α:Type} (κ:Fl->M α):(evK Rs Γ C 40).s W4 (nth z19_F.body 0) [qa,qb,qc,qd,qe] κ=κ (.nx [qa,qb,some (.int 0),some (.int 0),qe]):=by kernel_rfl
noncomputable def C9:List Stmt:=v5 (nth z19_F.body 1)
noncomputable def a6c (C:Cf):L3.Env->M Fl:=λρ'=>k4 (evK Rs Γ C 39) W4 C9 ρ' ret
theorem d0v (C:Cf) (qa:D) (qb qc qd qe:Option D) {α:Type} (κ:Fl->M α):(evK Rs Γ C 40).s W4 (nth z19_F.body 1) [some qa,qb,qc,qd,qe] κ=bind (ixD qa (.int 0)) λx1=>bind (y9 x1) λsm2=>bind (y8 sm2.1 (λd ρ=>some (ρ.set 4 (some d))) (a6c C) sm2.2 0 [some qa,qb,qc,qd,qe]) κ:=by kernel_rfl
theorem c8b (C:Cf) (qa qb qc qd:D) (qe:Option D) {α:Type} (κ:Fl->M α):(evK Rs Γ C 40).s W4 (nth z19_F.body 2) [some qa,some qb,some qc,some qd,qe] κ=bind (b8 .Eq (.tup [qc,qd]) qb) λx1=>bind (asB x1) λz2=>if z2=true then (bind (ixD qa (.int 1)) λx3=>κ (.rt x3)) else (κ (.rt (.str "out"))):=by kernel_rfl
theorem a5b:C9=[nth C9 0,nth C9 1,nth C9 2]:=by kernel_rfl
theorem a9s (C:Cf) (qa qb qc qd:D) (qe:Option D) {α:Type} (κ:Fl->M α):(evK Rs Γ C 39).s W4 (nth C9 0) [qe,some qa,some qb,some qc,some qd] κ=bind (b8 .Eq (.tup [qb,qc]) qa) λx1=>bind (asB x1) λz2=>if z2=true then (κ (.rt qd)) else (κ (.nx [qe,some qa,some qb,some qc,some qd])):=by kernel_rfl
theorem a9r (C:Cf) (qa qb:D) (qc qd qe:Option D) {α:Type} (κ:Fl->M α):(evK Rs Γ C 39).s W4 (nth C9 1) [qc,qd,some qa,qe,some qb] κ=bind (b8 .Eq qb (.str "down")) λx1=>bind (a5a x1) λx2=>bind (f9 qa x2) λx3=>κ (.nx [qc,qd,some x3,qe,some qb]):=by kernel_rfl
theorem b1e (C:Cf) (qa qb:D) (qc qd qe:Option D) {α:Type} (κ:Fl->M α):(evK Rs Γ C 39).s W4 (nth C9 2) [qc,qd,qe,some qa,some qb] κ=bind (b8 .Eq qb (.str "right")) λx1=>bind (a5a x1) λx2=>bind (f9 qa x2) λx3=>κ (.nx [qc,qd,qe,some x3,some qb]):=by kernel_rfl
theorem c0m (C:Cf) (qa qb qc:D):runK Rs Γ C b4n [qa,qb,qc]=bind (C 29 [qa]) λx1=>bind (ixD x1 qc) λx2=>bind (ixD qb (.int 0)) λx3=>bind (ixD x3 qc) λx4=>bind (nx (bind (ixD qb (.int 1)) λx6=>bind (y9 x6) λsm7=>i4 sm7.1 (λd5=>ret true) (λd5=>bind (C 30 [d5,x2]) λx8=>ret x8) sm7.2 0 [])) λl9=>bind (J7 (.lst l9)) λx10=>bind (f9 x4 (.tup [x10])) λx11=>ret x11:=by kernel_rfl
theorem b65 (C:Cf) (qa:D):runK Rs Γ C b2l [qa]=bind (nx (bind (y9 qa) λsm2=>i4 sm2.1 (λd1=>bind (b8 .Eq d1 (.str "down")) λx3=>bind (asB x3) λz4=>ret z4) (λd1=>ret d1) sm2.2 0 [])) λl5=>bind (j8 (.lst l5)) λx6=>bind (j8 qa) λx7=>bind (j8 qa) λx8=>bind (f9 x8 (.int 1)) λx9=>bind (C7 x7 x9) λx10=>bind (G1 x10 (.int 2)) λx11=>bind (f9 x11 x6) λx12=>ret x12:=by kernel_rfl
noncomputable def N8:Lc:=y4 z7_F
theorem c2x (C:Cf) (qa qb qc:D):runK Rs Γ C z7_F [qa,qb,qc]=k4 (evK Rs Γ C 40) N8 z7_F.body [some qa,some qb,some qc,none,none,none,none,none,none,none] endD:=by kernel_rfl
theorem c25:z7_F.body=[nth z7_F.body 0,nth z7_F.body 1,nth z7_F.body 2,nth z7_F.body 3,nth z7_F.body 4,nth z7_F.body 5,nth z7_F.body 6,nth z7_F.body 7,nth z7_F.body 8,nth z7_F.body 9]:=by kernel_rfl
theorem d1x (C:Cf) (qa qb:D) (qc qd qe qf qg qh qi qj:Option D) {α:Type} (κ:Fl->M α):(evK Rs Γ C 40).s N8 (nth z7_F.body 0) [qc,some qa,some qb,qd,qe,qf,qg,qh,qi,qj] κ=bind (ixD qa (.int 1)) λx1=>bind (ixD x1 qb) λx2=>bind (A4 (m9 [3,4]) x2 [qc,some qa,some qb,qd,qe,qf,qg,qh,qi,qj]) κ:=by kernel_rfl
theorem d04 (C:Cf) (qa:D) (qb qc qd qe qf qg qh qi qj:Option D) {α:Type} (κ:Fl->M α):(evK Rs Γ C 40).s N8 (nth z7_F.body 1) [qb,qc,qd,some qa,qe,qf,qg,qh,qi,qj] κ=bind (C 32 [qa]) λx1=>κ (.nx [qb,qc,qd,some qa,qe,some x1,qg,qh,qi,qj]):=by kernel_rfl
theorem d1p (C:Cf) (qa qb qc:D) (qd qe qf qg qh qi qj:Option D) {α:Type} (κ:Fl->M α):(evK Rs Γ C 40).s N8 (nth z7_F.body 2) [qd,some qa,some qb,qe,some qc,qf,qg,qh,qi,qj] κ=bind (C7 (.lst [(.str "out")]) qb) λx1=>bind (f9 x1 (.lst [qc])) λx2=>bind (ixD qa (.int 1)) λx3=>bind (j8 x3) λx4=>bind (a08 x4 qb) λx5=>bind (a08 x5 (.int 1)) λx6=>bind (C7 (.lst [(.str "out")]) x6) λx7=>bind (f9 x2 x7) λx8=>κ (.nx [qd,some qa,some qb,qe,some qc,qf,some x8,qh,qi,qj]):=by kernel_rfl
theorem d1d (C:Cf) (qa qb qc qd:D) (qe qf qg qh qi qj:Option D) {α:Type} (κ:Fl->M α):(evK Rs Γ C 40).s N8 (nth z7_F.body 3) [qe,some qa,some qb,qf,qg,some qc,some qd,qh,qi,qj] κ=bind (ixD qa (.int 0)) λx1=>bind (ixD x1 qc) λx2=>bind (J7 qd) λx3=>bind (f9 x2 (.tup [x3])) λx4=>bind (C 28 [x4,qb]) λx5=>κ (.nx [qe,some qa,some qb,qf,qg,some qc,some qd,some x5,qi,qj]):=by kernel_rfl
theorem d1k (C:Cf) (qa:D) (qb qc qd qe qf qg qh qi qj:Option D) {α:Type} (κ:Fl->M α):(evK Rs Γ C 40).s N8 (nth z7_F.body 4) [qb,qc,qd,qe,qf,qg,qh,some qa,qi,qj] κ=bind (b8 .Is qa .non) λx1=>bind (asB x1) λz2=>if z2=true then (κ (.rt .non)) else (κ (.nx [qb,qc,qd,qe,qf,qg,qh,some qa,qi,qj])):=by kernel_rfl
theorem c8k (C:Cf) (qa qb qc:D) (qd qe qf qg qh qi qj:Option D) {α:Type} (κ:Fl->M α):(evK Rs Γ C 40).s N8 (nth z7_F.body 5) [qd,qe,some qa,some qb,qf,qg,qh,some qc,qi,qj] κ=bind (ixD qc (.int 2)) λx1=>bind (ixD x1 qa) λx2=>κ (.nx [qd,qe,some qa,some qb,qf,qg,qh,some qc,some (.tup [qb,x2]),qj]):=by kernel_rfl
theorem c8u (C:Cf) (qa qb:D) (qc qd qe qf qg qh qi qj:Option D) {α:Type} (κ:Fl->M α):(evK Rs Γ C 40).s N8 (nth z7_F.body 6) [qc,qd,qe,some qa,qf,qg,qh,qi,some qb,qj] κ=bind (ixD qb (.int 1)) λx1=>bind (b8 .In x1 (.tup [(.str "right"),(.str "down")])) λx2=>bind (asB x2) λz3=>if z3=true then (bind (ixD qb (.int 1)) λx4=>bind (f9 qa (.tup [x4])) λx5=>κ (.nx [qc,qd,qe,some qa,qf,qg,qh,qi,some (.tup [x5,(.str "out")]),qj])) else (κ (.nx [qc,qd,qe,some qa,qf,qg,qh,qi,some qb,qj])):=by kernel_rfl
theorem d2q (C:Cf) (qa qb:D) (qc qd qe qf qg qh qi qj:Option D) {α:Type} (κ:Fl->M α):(evK Rs Γ C 40).s N8 (nth z7_F.body 7) [some qa,qc,qd,qe,qf,qg,qh,qi,some qb,qj] κ=bind (ixD qb (.int 0)) λx1=>bind (j8 x1) λx2=>bind (b8 .GtE x2 qa) λx3=>bind (asB x3) λz4=>if z4=true then (κ (.rt .non)) else (κ (.nx [some qa,qc,qd,qe,qf,qg,qh,qi,some qb,qj])):=by kernel_rfl
theorem d02 (C:Cf) (qa qb qc:D) (qd qe qf qg qh qi qj:Option D) {α:Type} (κ:Fl->M α):(evK Rs Γ C 40).s N8 (nth z7_F.body 8) [qd,some qa,qe,qf,qg,some qb,qh,some qc,qi,qj] κ=bind (ixD qa (.int 0)) λx1=>bind (B6 qb) λn2=>bind (slD x1 none n2) λx3=>bind (slD qc none (some 2)) λx4=>bind (f9 x3 (.tup [x4])) λx5=>bind (ixD qa (.int 0)) λx6=>bind (f9 qb (.int 1)) λx7=>bind (B6 x7) λn8=>bind (slD x6 n8 none) λx9=>bind (f9 x5 x9) λx10=>κ (.nx [qd,some qa,qe,qf,qg,some qb,qh,some qc,qi,some x10]):=by kernel_rfl
theorem d1u (C:Cf) (qa qb qc qd:D) (qe qf qg qh qi qj:Option D) {α:Type} (κ:Fl->M α):(evK Rs Γ C 40).s N8 (nth z7_F.body 9) [qe,some qa,some qb,qf,qg,qh,qi,qj,some qc,some qd] κ=bind (ixD qa (.int 1)) λx1=>bind (B6 qb) λn2=>bind (slD x1 none n2) λx3=>bind (f9 x3 (.tup [qc])) λx4=>bind (ixD qa (.int 1)) λx5=>bind (f9 qb (.int 1)) λx6=>bind (B6 x6) λn7=>bind (slD x5 n7 none) λx8=>bind (f9 x4 x8) λx9=>κ (.rt (.tup [qd,x9])):=by kernel_rfl
noncomputable def K1:Lc:=y4 z11_F
theorem b9c (C:Cf) (qa:D):runK Rs Γ C z11_F [qa]=k4 (evK Rs Γ C 40) K1 z11_F.body [some qa,none,none,none,none] endD:=by kernel_rfl
theorem b7e:z11_F.body=[nth z11_F.body 0,nth z11_F.body 1,nth z11_F.body 2,nth z11_F.body 3,nth z11_F.body 4,nth z11_F.body 5,nth z11_F.body 6,nth z11_F.body 7]:=by kernel_rfl
theorem c81 (C:Cf) (qa:D) (qb qc qd qe:Option D) {α:Type} (κ:Fl->M α):(evK Rs Γ C 40).s K1 (nth z11_F.body 0) [some qa,qb,qc,qd,qe] κ=bind (A4 (m9 [1,2,3]) qa [some qa,qb,qc,qd,qe]) κ:=by kernel_rfl
theorem c10 (C:Cf) (qa qb:D) (qc qd qe:Option D) {α:Type} (κ:Fl->M α):(evK Rs Γ C 40).s K1 (nth z11_F.body 1) [qc,qd,some qa,some qb,qe] κ=bind (j5 qa) λz1=>if (!z1)=true then (bind (nx (bind (y9 qb) λsm3=>i4 sm3.1 (λd2=>bind (b8 .In d2 (.tup [(.str "look"),(.str "holds"),(.str "right"),(.str "down")])) λx4=>bind (asB x4) λz5=>ret z5) (λd2=>ret d2) sm3.2 0 [])) λl6=>bind (b8 .NotEq (.lst l6) (.lst [])) λx7=>bind (asB x7) λz8=>if z8=true then (κ (.rt (.str "open"))) else (κ (.nx [qc,qd,some qa,some qb,qe]))) else (κ (.nx [qc,qd,some qa,some qb,qe])):=by kernel_rfl
theorem c1u (C:Cf) (qa qb:D) (qc qd qe:Option D) {α:Type} (κ:Fl->M α):(evK Rs Γ C 40).s K1 (nth z11_F.body 2) [qc,qd,some qa,some qb,qe] κ=bind (j5 qa) λz1=>if z1=true then (bind (nx (bind (y9 qb) λsm3=>i4 sm3.1 (λd2=>bind (b8 .In d2 (.tup [(.str "look"),(.str "holds"),(.str "down")])) λx4=>bind (asB x4) λz5=>ret z5) (λd2=>ret d2) sm3.2 0 [])) λl6=>bind (b8 .Eq (.lst l6) (.lst [])) λx7=>bind (asB x7) λz8=>if z8=true then (κ (.rt (.str "closed"))) else (κ (.nx [qc,qd,some qa,some qb,qe]))) else (κ (.nx [qc,qd,some qa,some qb,qe])):=by kernel_rfl
theorem c7l (C:Cf) (qa qb:D) (qc qd qe:Option D) {α:Type} (κ:Fl->M α):(evK Rs Γ C 40).s K1 (nth z11_F.body 3) [qc,some qa,qd,some qb,qe] κ=bind (b8 .Is qa .non) λx1=>bind (asB x1) λz2=>if z2=true then (bind (nx (bind (y9 qb) λsm4=>i4 sm4.1 (λd3=>bind (b8 .NotEq d3 (.str "out")) λx5=>bind (asB x5) λz6=>ret z6) (λd3=>ret d3) sm4.2 0 [])) λl7=>bind (b8 .NotEq (.lst l7) (.lst [])) λx8=>bind (asB x8) λz9=>if z9=true then (κ (.rt (.str "free"))) else (κ (.rt (.str "")))) else (κ (.nx [qc,some qa,qd,some qb,qe])):=by kernel_rfl
theorem c97 (C:Cf) (qa qb:D) (qc qd qe:Option D) {α:Type} (κ:Fl->M α):(evK Rs Γ C 40).s K1 (nth z11_F.body 4) [qc,some qa,qd,some qb,qe] κ=bind (ixD qb qa) λx1=>bind (b8 .In x1 (.tup [(.str "out"),(.str "down")])) λx2=>bind (asB x2) λz3=>if z3=true then (κ (.rt (.str "mark"))) else (κ (.nx [qc,some qa,qd,some qb,qe])):=by kernel_rfl
theorem c7p (C:Cf) (qa:D) (qb qc qd qe:Option D) {α:Type} (κ:Fl->M α):(evK Rs Γ C 40).s K1 (nth z11_F.body 5) [qb,qc,qd,some qa,qe] κ=bind (nx (bind (j8 qa) λx2=>bind (u5 [x2]) λsm3=>i4 sm3.1 (λd1=>bind (ixD qa d1) λx4=>bind (b8 .Eq x4 (.str "holds")) λx5=>bind (asB x5) λz6=>ret z6) (λd1=>ret d1) sm3.2 0 [])) λl7=>κ (.nx [qb,qc,qd,some qa,some (.lst l7)]):=by kernel_rfl
theorem c6g (C:Cf) (qa qb qc:D) (qd qe:Option D) {α:Type} (κ:Fl->M α):(evK Rs Γ C 40).s K1 (nth z11_F.body 6) [qd,some qa,qe,some qb,some qc] κ=bind (b8 .NotEq qc (.lst [])) λx1=>bind (asB x1) λz2=>if z2=true then (bind (ixD qb qa) λx3=>bind (b8 .In x3 (.tup [(.str "close"),(.str "look")])) λx4=>bind (asB x4) λz5=>if z5=true then (κ (.rt (.str "late"))) else (κ (.nx [qd,some qa,qe,some qb,some qc]))) else (κ (.nx [qd,some qa,qe,some qb,some qc])):=by kernel_rfl
theorem c9u (C:Cf) (qa:D) (qb qc qd qe:Option D) {α:Type} (κ:Fl->M α):(evK Rs Γ C 40).s K1 (nth z11_F.body 7) [qb,qc,qd,qe,some qa] κ=bind (j8 qa) λx1=>bind (b8 .Gt x1 (.int 1)) λx2=>bind (asB x2) λz3=>if z3=true then (κ (.rt (.str "twice"))) else (κ (.rt (.str ""))):=by kernel_rfl
noncomputable def a2p:Lc:=y4 z34_F
theorem b8o (C:Cf) (qa qb:D):runK Rs Γ C z34_F [qa,qb]=k4 (evK Rs Γ C 40) a2p z34_F.body [some qa,some qb,none,none] endD:=by kernel_rfl
theorem b8g:z34_F.body=[nth z34_F.body 0,nth z34_F.body 1]:=by kernel_rfl
noncomputable def M5:List Stmt:=v5 (nth z34_F.body 0)
noncomputable def a5z (C:Cf):L3.Env->M Fl:=λρ'=>k4 (evK Rs Γ C 39) a2p M5 ρ' ret
theorem d0h (C:Cf) (qa:D) (qb qc qd:Option D) {α:Type} (κ:Fl->M α):(evK Rs Γ C 40).s a2p (nth z34_F.body 0) [qb,some qa,qc,qd] κ=bind (ixD qa (.int 0)) λx1=>bind (j8 x1) λx2=>bind (u5 [x2]) λsm3=>bind (y8 sm3.1 (λd ρ=>some (ρ.set 2 (some d))) (a5z C) sm3.2 0 [qb,some qa,qc,qd]) κ:=by kernel_rfl
theorem c9m (C:Cf) (qa qb qc qd:Option D) {α:Type} (κ:Fl->M α):(evK Rs Γ C 40).s a2p (nth z34_F.body 1) [qa,qb,qc,qd] κ=κ (.rt (.tup [])):=by kernel_rfl
theorem a4b:M5=[nth M5 0,nth M5 1]:=by kernel_rfl
theorem b0a (C:Cf) (qa qb qc:D) (qd:Option D) {α:Type} (κ:Fl->M α):(evK Rs Γ C 39).s a2p (nth M5 0) [some qa,some qb,some qc,qd] κ=bind (C 31 [qa,qb,qc]) λx1=>bind (C 34 [x1]) λx2=>κ (.nx [some qa,some qb,some qc,some x2]):=by kernel_rfl
theorem b09 (C:Cf) (qa qb:D) (qc qd:Option D) {α:Type} (κ:Fl->M α):(evK Rs Γ C 39).s a2p (nth M5 1) [qc,qd,some qa,some qb] κ=bind (b8 .NotEq qb (.str "")) λx1=>bind (asB x1) λz2=>if z2=true then (κ (.rt (.tup [qb,qa]))) else (κ (.nx [qc,qd,some qa,some qb])):=by kernel_rfl
theorem b64 (C:Cf) (qa qb:D):runK Rs Γ C b5i [qa,qb]=bind (C 29 [qa]) λx1=>bind (j8 x1) λx2=>bind (C7 (.tup [(.tup [.non,(.bl false)])]) x2) λx3=>bind (C7 (.tup [(.tup [(.tup []),(.str "out")])]) qb) λx4=>ret (.tup [x3,x4]):=by kernel_rfl
noncomputable def O5:Lc:=y4 z17_F
theorem b8z (C:Cf) (qa qb qc:D):runK Rs Γ C z17_F [qa,qb,qc]=k4 (evK Rs Γ C 40) O5 z17_F.body [some qa,some qb,some qc,none,none,none,none,none] endD:=by kernel_rfl
theorem b8t:z17_F.body=[nth z17_F.body 0,nth z17_F.body 1,nth z17_F.body 2,nth z17_F.body 3]:=by kernel_rfl
theorem c76 (C:Cf) (qa qb:D) (qc qd qe qf qg qh:Option D) {α:Type} (κ:Fl->M α):(evK Rs Γ C 40).s O5 (nth z17_F.body 0) [qc,some qa,some qb,qd,qe,qf,qg,qh] κ=bind (C 36 [qa,qb]) λx1=>κ (.nx [qc,some qa,some qb,some x1,qe,qf,qg,qh]):=by kernel_rfl
theorem c6i (C:Cf) (qa qb:D) (qc qd qe qf qg qh:Option D) {α:Type} (κ:Fl->M α):(evK Rs Γ C 40).s O5 (nth z17_F.body 1) [some qa,qc,some qb,qd,qe,qf,qg,qh] κ=bind (nx (bind (u5 [qb]) λsm2=>i4 sm2.1 (λd1=>bind (C 27 [qa,(.int 5)]) λx3=>bind (b8 .Eq x3 (.int 0)) λx4=>bind (asB x4) λz5=>ret z5) (λd1=>ret d1) sm2.2 0 [])) λl6=>κ (.nx [some qa,qc,some qb,qd,qe,some (.lst l6),qg,qh]):=by kernel_rfl
noncomputable def B2:List Stmt:=v5 (nth z17_F.body 2)
noncomputable def a4n (C:Cf):L3.Env->M Fl:=λρ'=>k4 (evK Rs Γ C 39) O5 B2 ρ' ret
theorem c9f (C:Cf) (qa qb:D) (qc qd qe qf qg qh:Option D) {α:Type} (κ:Fl->M α):(evK Rs Γ C 40).s O5 (nth z17_F.body 2) [some qa,qc,some qb,qd,qe,qf,qg,qh] κ=bind (C7 (.int 8) qb) λx1=>bind (C 27 [qa,x1]) λx2=>bind (u5 [x2]) λsm3=>bind (y8 sm3.1 (λd ρ=>some (ρ.set 6 (some d))) (a4n C) sm3.2 0 [some qa,qc,some qb,qd,qe,qf,qg,qh]) κ:=by kernel_rfl
theorem d0f (C:Cf) (qa:D) (qb qc qd qe qf qg qh:Option D) {α:Type} (κ:Fl->M α):(evK Rs Γ C 40).s O5 (nth z17_F.body 3) [qb,qc,qd,some qa,qe,qf,qg,qh] κ=κ (.rt qa):=by kernel_rfl
theorem a4x:B2=[nth B2 0,nth B2 1,nth B2 2]:=by kernel_rfl
theorem b0k (C:Cf) (qa qb:D) (qc qd qe qf qg qh:Option D) {α:Type} (κ:Fl->M α):(evK Rs Γ C 39).s O5 (nth B2 0) [some qa,qc,some qb,qd,qe,qf,qg,qh] κ=bind (C 27 [qa,qb]) λx1=>κ (.nx [some qa,qc,some qb,qd,some x1,qf,qg,qh]):=by kernel_rfl
theorem b1j (C:Cf) (qa qb qc qd qe:D) (qf qg qh:Option D) {α:Type} (κ:Fl->M α):(evK Rs Γ C 39).s O5 (nth B2 1) [qf,some qa,qg,some qb,some qc,some qd,some qe,qh] κ=bind (b8 .In qc qd) λx1=>bind (asB x1) λz2=>if z2=true then (bind (b8 .Gt qe (.int 6)) λx3=>bind (asB x3) λz4=>if z4=true then (κ (.nx [qf,some qa,qg,some qb,some qc,some qd,some qe,some .non])) else (bind (C 33 [qa,qb,qc]) λx5=>κ (.nx [qf,some qa,qg,some qb,some qc,some qd,some qe,some x5]))) else (bind (C 33 [qa,qb,qc]) λx6=>κ (.nx [qf,some qa,qg,some qb,some qc,some qd,some qe,some x6])):=by kernel_rfl
theorem a11 (C:Cf) (qa qb:D) (qc qd qe qf qg qh:Option D) {α:Type} (κ:Fl->M α):(evK Rs Γ C 39).s O5 (nth B2 2) [qc,qd,qe,some qa,qf,qg,qh,some qb] κ=bind (b8 .Is qb .non) λx1=>bind (asB x1) λz2=>if z2=true then (κ (.nx [qc,qd,qe,some qa,qf,qg,qh,some qb])) else (κ (.nx [qc,qd,qe,some qb,qf,qg,qh,some qb])):=by kernel_rfl
noncomputable def G2:Lc:=y4 z32_F
theorem b86 (C:Cf) (qa qb qc:D):runK Rs Γ C z32_F [qa,qb,qc]=k4 (evK Rs Γ C 40) G2 z32_F.body [some qa,some qb,some qc,none,none,none,none,none,none,none,none,none,none] endD:=by kernel_rfl
theorem b7h:z32_F.body=[nth z32_F.body 0,nth z32_F.body 1,nth z32_F.body 2,nth z32_F.body 3,nth z32_F.body 4,nth z32_F.body 5,nth z32_F.body 6,nth z32_F.body 7,nth z32_F.body 8,nth z32_F.body 9]:=by kernel_rfl
theorem c82 (C:Cf) (qa:D) (qb qc qd qe qf qg qh qi qj qk ql qm:Option D) {α:Type} (κ:Fl->M α):(evK Rs Γ C 40).s G2 (nth z32_F.body 0) [qb,qc,some qa,qd,qe,qf,qg,qh,qi,qj,qk,ql,qm] κ=bind (A4 (m9 [3,4]) qa [qb,qc,some qa,qd,qe,qf,qg,qh,qi,qj,qk,ql,qm]) κ:=by kernel_rfl
theorem c7x (C:Cf) (qa:D) (qb qc qd qe qf qg qh qi qj qk ql qm:Option D) {α:Type} (κ:Fl->M α):(evK Rs Γ C 40).s G2 (nth z32_F.body 1) [qb,qc,qd,qe,some qa,qf,qg,qh,qi,qj,qk,ql,qm] κ=bind (j8 qa) λx1=>κ (.nx [qb,qc,qd,qe,some qa,some x1,qg,qh,qi,qj,qk,ql,qm]):=by kernel_rfl
theorem c60 (C:Cf) (qa:D) (qb qc qd qe qf qg qh qi qj qk ql qm:Option D) {α:Type} (κ:Fl->M α):(evK Rs Γ C 40).s G2 (nth z32_F.body 2) [some qa,qb,qc,qd,qe,qf,qg,qh,qi,qj,qk,ql,qm] κ=bind (C 27 [qa,(.int 4)]) λx1=>κ (.nx [some qa,qb,qc,qd,qe,qf,some x1,qh,qi,qj,qk,ql,qm]):=by kernel_rfl
theorem c6r (C:Cf) (qa qb:D) (qc qd qe qf qg qh qi qj qk ql qm:Option D) {α:Type} (κ:Fl->M α):(evK Rs Γ C 40).s G2 (nth z32_F.body 3) [some qa,qc,qd,some qb,qe,qf,qg,qh,qi,qj,qk,ql,qm] κ=bind (j8 qb) λx1=>bind (C 27 [qa,x1]) λx2=>κ (.nx [some qa,qc,qd,some qb,qe,qf,qg,some x2,qi,qj,qk,ql,qm]):=by kernel_rfl
theorem c98 (C:Cf) (qa qb qc qd qe qf:D) (qg qh qi qj qk ql qm:Option D) {α:Type} (κ:Fl->M α):(evK Rs Γ C 40).s G2 (nth z32_F.body 4) [some qa,qg,qh,some qb,some qc,some qd,some qe,some qf,qi,qj,qk,ql,qm] κ=bind (b8 .Lt qe (.int 2)) λx1=>bind (asB x1) λz2=>if z2=true then (bind (Q2 qd) λx3=>bind (f9 (.lst [.non]) x3) λx4=>bind (f9 qd (.int 1)) λx5=>bind (C 27 [qa,x5]) λx6=>bind (ixD x4 x6) λx7=>bind (ixD qb qf) λx8=>bind (ixD x8 (.int 1)) λx9=>bind (b8 .Eq qe (.int 1)) λx10=>bind (asB x10) λz11=>if z11=true then (bind (ixD qb qf) λx12=>bind (ixD x12 (.int 0)) λx13=>bind (ixD qb qf) λx14=>bind (ixD x14 (.int 1)) λx15=>bind (j5 x15) λc16=>bind (B6 qf) λn17=>bind (slD qb none n17) λx18=>bind (J7 (.lst [x13,(.bl (!c16))])) λx19=>bind (f9 x18 (.tup [x19])) λx20=>bind (f9 qf (.int 1)) λx21=>bind (B6 x21) λn22=>bind (slD qb n22 none) λx23=>bind (f9 x20 x23) λx24=>κ (.rt (.tup [x24,qc]))) else (bind (B6 qf) λn25=>bind (slD qb none n25) λx26=>bind (J7 (.lst [x7,x9])) λx27=>bind (f9 x26 (.tup [x27])) λx28=>bind (f9 qf (.int 1)) λx29=>bind (B6 x29) λn30=>bind (slD qb n30 none) λx31=>bind (f9 x28 x31) λx32=>κ (.rt (.tup [x32,qc])))) else (κ (.nx [some qa,qg,qh,some qb,some qc,some qd,some qe,some qf,qi,qj,qk,ql,qm])):=by kernel_rfl
theorem c7n (C:Cf) (qa qb:D) (qc qd qe qf qg qh qi qj qk ql qm:Option D) {α:Type} (κ:Fl->M α):(evK Rs Γ C 40).s G2 (nth z32_F.body 5) [some qa,qc,qd,qe,qf,some qb,qg,qh,qi,qj,qk,ql,qm] κ=bind (C 27 [qa,qb]) λx1=>κ (.nx [some qa,qc,qd,qe,qf,some qb,qg,qh,qi,some x1,qk,ql,qm]):=by kernel_rfl
theorem c7y (C:Cf) (qa qb:D) (qc qd qe qf qg qh qi qj qk ql qm:Option D) {α:Type} (κ:Fl->M α):(evK Rs Γ C 40).s G2 (nth z32_F.body 6) [qc,qd,qe,qf,some qa,qg,qh,qi,qj,some qb,qk,ql,qm] κ=bind (ixD qa qb) λx1=>bind (A4 (m9 [10,11]) x1 [qc,qd,qe,qf,some qa,qg,qh,qi,qj,some qb,qk,ql,qm]) κ:=by kernel_rfl
theorem c7h (C:Cf) (qa:D) (qb qc qd qe qf qg qh qi qj qk ql qm:Option D) {α:Type} (κ:Fl->M α):(evK Rs Γ C 40).s G2 (nth z32_F.body 7) [some qa,qb,qc,qd,qe,qf,qg,qh,qi,qj,qk,ql,qm] κ=bind (C 27 [qa,(.int 5)]) λx1=>bind (ixD (.lst [(.str "out"),(.str "ask"),(.str "close"),(.str "look"),(.str "holds")]) x1) λx2=>κ (.nx [some qa,qb,qc,qd,qe,qf,qg,qh,qi,qj,qk,some x2,qm]):=by kernel_rfl
theorem d0n (C:Cf) (qa qb qc:D) (qd qe qf qg qh qi qj qk ql qm:Option D) {α:Type} (κ:Fl->M α):(evK Rs Γ C 40).s G2 (nth z32_F.body 8) [some qa,some qb,qd,qe,qf,qg,some qc,qh,qi,qj,qk,ql,qm] κ=bind (b8 .Eq qc (.int 3)) λx1=>bind (asB x1) λz2=>if z2=true then (bind (nx (bind (C 27 [qa,qb]) λx4=>bind (u5 [x4]) λsm5=>i4 sm5.1 (λd3=>ret true) (λd3=>bind (C 27 [qa,(.int 2)]) λx6=>bind (ixD (.lst [(.str "right"),(.str "down")]) x6) λx7=>ret x7) sm5.2 0 [])) λl8=>bind (J7 (.lst l8)) λx9=>κ (.nx [some qa,some qb,qd,qe,qf,qg,some qc,qh,qi,qj,some x9,ql,some (.lst l8)])) else (κ (.nx [some qa,some qb,qd,qe,qf,qg,some qc,qh,qi,qj,qk,ql,qm])):=by kernel_rfl
theorem c6s (C:Cf) (qa qb qc qd qe:D) (qf qg qh qi qj qk ql qm:Option D) {α:Type} (κ:Fl->M α):(evK Rs Γ C 40).s G2 (nth z32_F.body 9) [qf,qg,qh,some qa,some qb,qi,qj,qk,ql,some qc,some qd,some qe,qm] κ=bind (B6 qc) λn1=>bind (slD qb none n1) λx2=>bind (f9 x2 (.tup [(.tup [qd,qe])])) λx3=>bind (f9 qc (.int 1)) λx4=>bind (B6 x4) λn5=>bind (slD qb n5 none) λx6=>bind (f9 x3 x6) λx7=>κ (.rt (.tup [qa,x7])):=by kernel_rfl
noncomputable def a05:Lc:=y4 z16_F
theorem c0j (C:Cf) (qa qb qc:D):runK Rs Γ C z16_F [qa,qb,qc]=k4 (evK Rs Γ C 40) a05 z16_F.body [some qa,some qb,some qc,none,none,none] endD:=by kernel_rfl
theorem b7f:z16_F.body=[nth z16_F.body 0,nth z16_F.body 1,nth z16_F.body 2]:=by kernel_rfl
theorem c8v (C:Cf) (qa qb qc:D) (qd qe qf:Option D) {α:Type} (κ:Fl->M α):(evK Rs Γ C 40).s a05 (nth z16_F.body 0) [some qa,some qb,some qc,qd,qe,qf] κ=bind (C 37 [qa,qb,qc]) λx1=>κ (.nx [some qa,some qb,some qc,some x1,qe,qf]):=by kernel_rfl
noncomputable def M2:List Stmt:=v5 (nth z16_F.body 1)
noncomputable def a41 (C:Cf):L3.Env->M Fl:=λρ'=>k4 (evK Rs Γ C 39) a05 M2 ρ' ret
theorem c7o (C:Cf) (qa qb qc qd qe qf:Option D) {α:Type} (κ:Fl->M α):(evK Rs Γ C 40).s a05 (nth z16_F.body 1) [qa,qb,qc,qd,qe,qf] κ=bind (u5 [(.int 10)]) λsm1=>bind (y8 sm1.1 (λd ρ=>some (ρ.set 4 (some d))) (a41 C) sm1.2 0 [qa,qb,qc,qd,qe,qf]) κ:=by kernel_rfl
theorem c8g (C:Cf) (qa:D) (qb qc qd qe qf:Option D) {α:Type} (κ:Fl->M α):(evK Rs Γ C 40).s a05 (nth z16_F.body 2) [qb,qc,qd,some qa,qe,qf] κ=κ (.rt qa):=by kernel_rfl
theorem a4d:M2=[nth M2 0,nth M2 1]:=by kernel_rfl
theorem b00 (C:Cf) (qa qb qc:D) (qd qe qf:Option D) {α:Type} (κ:Fl->M α):(evK Rs Γ C 39).s a05 (nth M2 0) [some qa,some qb,qd,some qc,qe,qf] κ=bind (C 38 [qa,qb,qc]) λx1=>κ (.nx [some qa,some qb,qd,some qc,qe,some x1]):=by kernel_rfl
theorem b0b (C:Cf) (qa qb:D) (qc qd qe qf:Option D) {α:Type} (κ:Fl->M α):(evK Rs Γ C 39).s a05 (nth M2 1) [qc,some qa,qd,qe,qf,some qb] κ=bind (C 35 [qa,qb]) λx1=>bind (b8 .Eq x1 (.tup [])) λx2=>bind (asB x2) λz3=>if z3=true then (κ (.nx [qc,some qa,qd,some qb,qf,some qb])) else (κ (.nx [qc,some qa,qd,qe,qf,some qb])):=by kernel_rfl
theorem c4y (C:Cf):runK Rs Γ C c5l []=bind (b2e [(.tup [(.str "each"),(.tup [(.str "either"),(.tup [(.str "not"),(.tup [(.str "at"),(.int 0),(.tup [(.str "look"),(.str "holds"),(.str "right"),(.str "down")])])]),(.tup [(.str "closed")])])])]) λx1=>bind (lstOf x1) λ_=>bind (a1i x1 [(.tup [(.str "some"),(.tup [(.str "either"),(.tup [(.str "not"),(.tup [(.str "closed")])]),(.tup [(.str "at"),(.int 0),(.tup [(.str "look"),(.str "holds"),(.str "down")])])])])]) λx2=>bind (lstOf x1) λ_=>bind (a1i x1 [(.tup [(.str "each"),(.tup [(.str "either"),(.tup [(.str "at"),(.int 0),(.tup [(.str "out")])]),(.tup [(.str "not"),(.tup [(.str "free")])])])])]) λx3=>bind (lstOf x1) λ_=>bind (a1i x1 [(.tup [(.str "each"),(.tup [(.str "either"),(.tup [(.str "not"),(.tup [(.str "mark"),(.int 0)])]),(.tup [(.str "not"),(.tup [(.str "at"),(.int 0),(.tup [(.str "out"),(.str "down")])])])])])]) λx4=>bind (lstOf x1) λ_=>bind (a1i x1 [(.tup [(.str "pairs"),(.tup [(.str "either"),(.tup [(.str "not"),(.tup [(.str "at"),(.int 0),(.tup [(.str "holds")])])]),(.tup [(.str "not"),(.tup [(.str "both"),(.tup [(.str "mark"),(.int 1)]),(.tup [(.str "at"),(.int 1),(.tup [(.str "close"),(.str "look")])])])])])])]) λx5=>bind (lstOf x1) λ_=>bind (a1i x1 [(.tup [(.str "pairs"),(.tup [(.str "not"),(.tup [(.str "both"),(.tup [(.str "at"),(.int 0),(.tup [(.str "holds")])]),(.tup [(.str "at"),(.int 1),(.tup [(.str "holds")])])])])])]) λx6=>ret x1:=by kernel_rfl
noncomputable def O1:Lc:=y4 z24_F
theorem b9y (C:Cf) (qa qb:D):runK Rs Γ C z24_F [qa,qb]=k4 (evK Rs Γ C 40) O1 z24_F.body [some qa,some qb,none,none,none,none] endD:=by kernel_rfl
theorem b9h:z24_F.body=[nth z24_F.body 0,nth z24_F.body 1,nth z24_F.body 2]:=by kernel_rfl
theorem c9k (C:Cf) (qa:D) (qb qc qd qe qf:Option D) {α:Type} (κ:Fl->M α):(evK Rs Γ C 40).s O1 (nth z24_F.body 0) [qb,some qa,qc,qd,qe,qf] κ=bind (nx (bind (ixD qa (.int 1)) λx2=>bind (y9 x2) λsm3=>i4 sm3.1 (λd1=>bind (b8 .NotEq d1 (.tup [(.tup []),(.str "out")])) λx4=>bind (asB x4) λz5=>ret z5) (λd1=>ret d1) sm3.2 0 [])) λl6=>κ (.nx [qb,some qa,some (.lst l6),qd,qe,qf]):=by kernel_rfl
noncomputable def P8:List Stmt:=v5 (nth z24_F.body 1)
noncomputable def a4j (C:Cf):L3.Env->M Fl:=λρ'=>k4 (evK Rs Γ C 39) O1 P8 ρ' ret
theorem c6w (C:Cf) (qa:D) (qb qc qd qe qf:Option D) {α:Type} (κ:Fl->M α):(evK Rs Γ C 40).s O1 (nth z24_F.body 1) [some qa,qb,qc,qd,qe,qf] κ=bind (u5 [qa]) λsm1=>bind (y8 sm1.1 (λd ρ=>some (ρ.set 3 (some d))) (a4j C) sm1.2 0 [some qa,qb,qc,qd,qe,qf]) κ:=by kernel_rfl
theorem c65 (C:Cf) (qa qb qc qd qe qf:Option D) {α:Type} (κ:Fl->M α):(evK Rs Γ C 40).s O1 (nth z24_F.body 2) [qa,qb,qc,qd,qe,qf] κ=κ (.rt (.bl true)):=by kernel_rfl
theorem a5f:P8=[nth P8 0]:=by kernel_rfl
noncomputable def p0:List Stmt:=v5 (nth P8 0)
noncomputable def R8 (C:Cf):L3.Env->M Fl:=λρ'=>k4 (evK Rs Γ C 38) O1 p0 ρ' ret
theorem b01 (C:Cf) (qa qb:D) (qc qd qe qf:Option D) {α:Type} (κ:Fl->M α):(evK Rs Γ C 39).s O1 (nth P8 0) [some qa,qc,qd,some qb,qe,qf] κ=bind (a08 qa qb) λx1=>bind (u5 [x1]) λsm2=>bind (y8 sm2.1 (λd ρ=>some (ρ.set 4 (some d))) (R8 C) sm2.2 0 [some qa,qc,qd,some qb,qe,qf]) κ:=by kernel_rfl
theorem X8:p0=[nth p0 0,nth p0 1,nth p0 2]:=by kernel_rfl
theorem a1n (C:Cf) (qa:D) (qb qc qd qe qf:Option D) {α:Type} (κ:Fl->M α):(evK Rs Γ C 38).s O1 (nth p0 0) [qb,qc,some qa,qd,qe,qf] κ=bind (nx (bind (y9 qa) λsm2=>i4 sm2.1 (λd1=>ret true) (λd1=>bind (C 8 [d1]) λx3=>ret x3) sm2.2 0 [])) λl4=>κ (.nx [qb,qc,some qa,qd,qe,some (.lst l4)]):=by kernel_rfl
theorem a1t (C:Cf) (qa qb qc:D) (qd qe qf:Option D) {α:Type} (κ:Fl->M α):(evK Rs Γ C 38).s O1 (nth p0 1) [qd,qe,qf,some qa,some qb,some qc] κ=bind (nx (bind (y9 qc) λsm2=>i4 sm2.1 (λd1=>bind (ixD d1 (.int 0)) λx3=>bind (b8 .GtE x3 qa) λx4=>bind (asB x4) λz5=>if z5=true then (bind (ixD d1 (.int 1)) λx6=>bind (b8 .GtE x6 qb) λx7=>bind (asB x7) λz8=>ret z8) else (ret false)) (λd1=>ret d1) sm2.2 0 [])) λl9=>κ (.nx [qd,qe,qf,some qa,some qb,some (.lst l9)]):=by kernel_rfl
theorem a1l (C:Cf) (qa qb qc qd:D) (qe qf:Option D) {α:Type} (κ:Fl->M α):(evK Rs Γ C 38).s O1 (nth p0 2) [qe,qf,some qa,some qb,some qc,some qd] κ=bind (j8 qd) λx1=>bind (j8 qa) λx2=>bind (a08 x2 qb) λx3=>bind (a08 x3 qc) λx4=>bind (b4e [(.int 0),x4]) λx5=>bind (b8 .Gt x1 x5) λx6=>bind (asB x6) λz7=>if z7=true then (κ (.rt (.bl false))) else (κ (.nx [qe,qf,some qa,some qb,some qc,some qd])):=by kernel_rfl
noncomputable def a3k:Lc:=y4 z4_F
theorem c51 (C:Cf) (qa qb:D):runK Rs Γ C z4_F [qa,qb]=k4 (evK Rs Γ C 40) a3k z4_F.body [some qa,some qb,none,none,none,none] endD:=by kernel_rfl
theorem c4e:z4_F.body=[nth z4_F.body 0,nth z4_F.body 1,nth z4_F.body 2]:=by kernel_rfl
theorem d00 (C:Cf) (qa qb qc qd qe qf:Option D) {α:Type} (κ:Fl->M α):(evK Rs Γ C 40).s a3k (nth z4_F.body 0) [qa,qb,qc,qd,qe,qf] κ=bind (C 40 []) λx1=>κ (.nx [qa,qb,some x1,qd,qe,qf]):=by kernel_rfl
noncomputable def D7:List Stmt:=v5 (nth z4_F.body 1)
noncomputable def a8k (C:Cf):L3.Env->M Fl:=λρ'=>k4 (evK Rs Γ C 39) a3k D7 ρ' ret
theorem d2h (C:Cf) (qa:D) (qb qc qd qe qf:Option D) {α:Type} (κ:Fl->M α):(evK Rs Γ C 40).s a3k (nth z4_F.body 1) [some qa,qb,qc,qd,qe,qf] κ=bind (f9 qa (.int 1)) λx1=>bind (C7 qa x1) λx2=>bind (G1 x2 (.int 2)) λx3=>bind (u5 [x3]) λsm4=>bind (y8 sm4.1 (λd ρ=>some (ρ.set 3 (some d))) (a8k C) sm4.2 0 [some qa,qb,qc,qd,qe,qf]) κ:=by kernel_rfl
theorem d13 (C:Cf) (qa qb qc qd qe qf:Option D) {α:Type} (κ:Fl->M α):(evK Rs Γ C 40).s a3k (nth z4_F.body 2) [qa,qb,qc,qd,qe,qf] κ=κ (.rt (.bl true)):=by kernel_rfl
theorem a7f:D7=[nth D7 0,nth D7 1,nth D7 2,nth D7 3]:=by kernel_rfl
theorem b3z (C:Cf) (qa qb qc:D) (qd qe qf:Option D) {α:Type} (κ:Fl->M α):(evK Rs Γ C 39).s a3k (nth D7 0) [some qa,some qb,qd,some qc,qe,qf] κ=bind (C 13 [qa,qb,qc]) λx1=>κ (.nx [some qa,some qb,qd,some qc,some x1,qf]):=by kernel_rfl
theorem b1q (C:Cf) (qa:D) (qb qc qd qe qf:Option D) {α:Type} (κ:Fl->M α):(evK Rs Γ C 39).s a3k (nth D7 1) [qb,qc,qd,qe,some qa,qf] κ=bind (nx (bind (ixD qa (.int 2)) λx2=>bind (y9 x2) λsm3=>i4 sm3.1 (λd1=>bind (b8 .NotEq d1 (.str "out")) λx4=>bind (asB x4) λz5=>ret z5) (λd1=>ret d1) sm3.2 0 [])) λl6=>κ (.nx [qb,qc,qd,qe,some qa,some (.lst l6)]):=by kernel_rfl
theorem b17 (C:Cf) (qa qb qc:D) (qd qe qf:Option D) {α:Type} (κ:Fl->M α):(evK Rs Γ C 39).s a3k (nth D7 2) [qd,some qa,some qb,qe,some qc,qf] κ=bind (ixD qa (.int 1)) λx1=>bind (j8 x1) λx2=>bind (C 4 [x2,qc]) λx3=>bind (b8 .IsNot x3 (.bl true)) λx4=>bind (asB x4) λz5=>if z5=true then (κ (.rt (.bl false))) else (bind (nx (bind (y9 qb) λsm7=>i4 sm7.1 (λd6=>ret true) (λd6=>bind (C 23 [qc,d6]) λx8=>ret x8) sm7.2 0 [])) λl9=>bind (b8 .In (.bl false) (.lst l9)) λx10=>bind (asB x10) λz11=>if z11=true then (κ (.rt (.bl false))) else (κ (.nx [qd,some qa,some qb,qe,some qc,qf]))):=by kernel_rfl
theorem b4l (C:Cf) (qa:D) (qb qc qd qe qf:Option D) {α:Type} (κ:Fl->M α):(evK Rs Γ C 39).s a3k (nth D7 3) [qb,qc,qd,qe,qf,some qa] κ=bind (b8 .NotEq qa (.lst [])) λx1=>bind (asB x1) λz2=>if z2=true then (bind (lstOf qa) λ_=>bind (countD qa [(.str "right")]) λx3=>bind (j8 qa) λx4=>bind (b8 .Eq x3 x4) λx5=>bind (asB x5) λz6=>if z6=true then (κ (.rt (.bl false))) else (bind (lstOf qa) λ_=>bind (countD qa [(.str "down")]) λx7=>bind (j8 qa) λx8=>bind (b8 .Eq x7 x8) λx9=>bind (asB x9) λz10=>if z10=true then (κ (.rt (.bl false))) else (κ (.nx [qb,qc,qd,qe,qf,some qa])))) else (κ (.nx [qb,qc,qd,qe,qf,some qa])):=by kernel_rfl
noncomputable def B0:Lc:=y4 law_F
theorem b83 (C:Cf) (qa:D):runK Rs Γ C law_F [qa]=k4 (evK Rs Γ C 40) B0 law_F.body [some qa,none,none,none,none,none,none,none,none,none] endD:=by kernel_rfl
theorem c0t:law_F.body=[nth law_F.body 0,nth law_F.body 1,nth law_F.body 2]:=by kernel_rfl
theorem c83 (C:Cf) (qa:D) (qb qc qd qe qf qg qh qi qj:Option D) {α:Type} (κ:Fl->M α):(evK Rs Γ C 40).s B0 (nth law_F.body 0) [some qa,qb,qc,qd,qe,qf,qg,qh,qi,qj] κ=bind (C 26 [qa]) λx1=>κ (.nx [some qa,some x1,qc,qd,qe,qf,qg,qh,qi,qj]):=by kernel_rfl
noncomputable def A2:List Stmt:=v5 (nth law_F.body 1)
noncomputable def a5g (C:Cf):L3.Env->M Fl:=λρ'=>k4 (evK Rs Γ C 39) B0 A2 ρ' ret
theorem c9l (C:Cf) (qa qb qc qd qe qf qg qh qi qj:Option D) {α:Type} (κ:Fl->M α):(evK Rs Γ C 40).s B0 (nth law_F.body 1) [qa,qb,qc,qd,qe,qf,qg,qh,qi,qj] κ=bind (u5 [(.int 4)]) λsm1=>bind (y8 sm1.1 (λd ρ=>some (ρ.set 2 (some d))) (a5g C) sm1.2 0 [qa,qb,qc,qd,qe,qf,qg,qh,qi,qj]) κ:=by kernel_rfl
theorem c7d (C:Cf) (qa qb qc qd qe qf qg qh qi qj:Option D) {α:Type} (κ:Fl->M α):(evK Rs Γ C 40).s B0 (nth law_F.body 2) [qa,qb,qc,qd,qe,qf,qg,qh,qi,qj] κ=κ (.rt (.bl true)):=by kernel_rfl
theorem a50:A2=[nth A2 0,nth A2 1,nth A2 2,nth A2 3]:=by kernel_rfl
theorem b0i (C:Cf) (qa:D) (qb qc qd qe qf qg qh qi qj:Option D) {α:Type} (κ:Fl->M α):(evK Rs Γ C 39).s B0 (nth A2 0) [qb,some qa,qc,qd,qe,qf,qg,qh,qi,qj] κ=bind (C 27 [qa,(.int 5)]) λx1=>bind (f9 (.int 1) x1) λx2=>κ (.nx [qb,some qa,qc,some x2,qe,qf,qg,qh,qi,qj]):=by kernel_rfl
theorem a98 (C:Cf) (qa qb:D) (qc qd qe qf qg qh qi qj:Option D) {α:Type} (κ:Fl->M α):(evK Rs Γ C 39).s B0 (nth A2 1) [qc,some qa,qd,some qb,qe,qf,qg,qh,qi,qj] κ=bind (C 27 [qa,qb]) λx1=>bind (f9 (.int 1) x1) λx2=>κ (.nx [qc,some qa,qd,some qb,some x2,qf,qg,qh,qi,qj]):=by kernel_rfl
theorem a9x (C:Cf) (qa qb qc:D) (qd qe qf qg qh qi qj:Option D) {α:Type} (κ:Fl->M α):(evK Rs Γ C 39).s B0 (nth A2 2) [qd,some qa,qe,some qb,some qc,qf,qg,qh,qi,qj] κ=bind (C 39 [qa,qb,qc]) λx1=>κ (.nx [qd,some qa,qe,some qb,some qc,some x1,qg,qh,qi,qj]):=by kernel_rfl
noncomputable def j1:List Stmt:=v5 (nth A2 3)
noncomputable def Q4 (C:Cf):L3.Env->M Fl:=λρ'=>k4 (evK Rs Γ C 38) B0 j1 ρ' ret
theorem b0f (C:Cf) (qa qb qc qd qe qf qg qh qi qj:Option D) {α:Type} (κ:Fl->M α):(evK Rs Γ C 39).s B0 (nth A2 3) [qa,qb,qc,qd,qe,qf,qg,qh,qi,qj] κ=bind (u5 [(.int 4)]) λsm1=>bind (y8 sm1.1 (λd ρ=>some (ρ.set 6 (some d))) (Q4 C) sm1.2 0 [qa,qb,qc,qd,qe,qf,qg,qh,qi,qj]) κ:=by kernel_rfl
theorem X5:j1=[nth j1 0,nth j1 1,nth j1 2,nth j1 3]:=by kernel_rfl
theorem a1f (C:Cf) (qa qb qc:D) (qd qe qf qg qh qi qj:Option D) {α:Type} (κ:Fl->M α):(evK Rs Γ C 38).s B0 (nth j1 0) [qd,qe,qf,some qa,some qb,some qc,qg,qh,qi,qj] κ=bind (C 15 [qa,qb,qc]) λx1=>bind (b8 .IsNot x1 (.bl true)) λx2=>bind (asB x2) λz3=>if z3=true then (κ (.rt (.bl false))) else (bind (C 41 [qa,qc]) λx4=>bind (j5 x4) λz5=>if (!z5)=true then (κ (.rt (.bl false))) else (κ (.nx [qd,qe,qf,some qa,some qb,some qc,qg,qh,qi,qj]))):=by kernel_rfl
theorem a1m (C:Cf) (qa qb:D) (qc qd qe qf qg qh qi qj:Option D) {α:Type} (κ:Fl->M α):(evK Rs Γ C 38).s B0 (nth j1 1) [qc,qd,qe,some qa,qf,some qb,qg,qh,qi,qj] κ=bind (C 42 [qa,qb]) λx1=>bind (j5 x1) λz2=>if (!z2)=true then (κ (.rt (.bl false))) else (κ (.nx [qc,qd,qe,some qa,qf,some qb,qg,qh,qi,qj])):=by kernel_rfl
theorem a1q (C:Cf) (qa qb:D) (qc qd qe qf qg qh qi qj:Option D) {α:Type} (κ:Fl->M α):(evK Rs Γ C 38).s B0 (nth j1 2) [qc,qd,qe,qf,some qa,some qb,qg,qh,qi,qj] κ=bind (nx (bind (u5 [qa]) λsm2=>i4 sm2.1 (λd1=>bind (ixD qb (.int 1)) λx3=>bind (ixD x3 d1) λx4=>bind (ixD x4 (.int 1)) λx5=>bind (b8 .NotEq x5 (.str "holds")) λx6=>bind (asB x6) λz7=>ret z7) (λd1=>ret d1) sm2.2 0 [])) λl8=>κ (.nx [qc,qd,qe,qf,some qa,some qb,qg,qh,some (.lst l8),qj]):=by kernel_rfl
noncomputable def w9:List Stmt:=v5 (nth j1 3)
noncomputable def E1 (C:Cf):L3.Env->M Fl:=λρ'=>k4 (evK Rs Γ C 37) B0 w9 ρ' ret
theorem a1h (C:Cf) (qa qb qc qd qe qf qg qh qi qj:Option D) {α:Type} (κ:Fl->M α):(evK Rs Γ C 38).s B0 (nth j1 3) [qa,qb,qc,qd,qe,qf,qg,qh,qi,qj] κ=bind (u5 [(.int 3)]) λsm1=>bind (y8 sm1.1 (λd ρ=>some (ρ.set 9 (some d))) (E1 C) sm1.2 0 [qa,qb,qc,qd,qe,qf,qg,qh,qi,qj]) κ:=by kernel_rfl
theorem N5:w9=[nth w9 0]:=by kernel_rfl
theorem T1 (C:Cf) (qa qb qc qd:D) (qe qf qg qh qi qj:Option D) {α:Type} (κ:Fl->M α):(evK Rs Γ C 37).s B0 (nth w9 0) [qe,some qa,qf,some qb,qg,some qc,qh,qi,some qd,qj] κ=bind (b8 .NotEq qd (.lst [])) λx1=>bind (asB x1) λz2=>if z2=true then (bind (j8 qd) λx3=>bind (C 27 [qa,x3]) λx4=>bind (ixD qd x4) λx5=>bind (ixD qc (.int 1)) λx6=>bind (ixD x6 x5) λx7=>bind (ixD x7 (.int 1)) λx8=>bind (b8 .NotEq x8 (.str "holds")) λx9=>bind (asB x9) λz10=>if z10=true then (bind (C 11 [qb,qc,x5]) λx11=>κ (.nx [qe,some qa,qf,some qb,qg,some x11,qh,some x5,some qd,qj])) else (κ (.nx [qe,some qa,qf,some qb,qg,some qc,qh,some x5,some qd,qj]))) else (κ (.nx [qe,some qa,qf,some qb,qg,some qc,qh,qi,some qd,qj])):=by kernel_rfl
end L3.K15
end
section
set_option maxHeartbeats 1000000
namespace L3.K15
open PySem PySem.Spec PyProof.Rows L2 L3.Nt
theorem a7x (n:Nat) (hn:n<1000) (k:Nat) (S:Sto):rn (k+1) c4h [.int (n:Int)] S=.ok (.int (tri n:Int)) S:=by
 refine d9 ?_
 rw [rn,c7 (fd:=b6d) rfl,b71]
 refine Ok.eq (D9 n 1 S) (Ok.eq (T4 (.inl ⟨by omega,by omega⟩) S) (Ok.eq (T9 (by decide) (by decide) S) (Ok.ret ⟨?_,rfl⟩)))
 have:((n:Int) * ((n+1:Nat):Int) / 2)=((n * (n+1) / 2:Nat):Int):=by
  rw [<- Int.natCast_mul];exact (Int.natCast_ediv (n * (n+1)) 2).symm
 rw [this];rfl
theorem V9 (t:List Bool) (k:Nat) (S:Sto):rn (k+1) c26 [trD t] S=.ok (.tup [.int (dn t:Int),.int (rt t:Int)]) S:=by
 refine d9 ?_
 rw [rn,c7 (fd:=b2p) rfl,b6t]
 exact Ok.eq rfl (Ok.eq (b8i t S) (Ok.eq rfl (Ok.eq (b3y t S) (Ok.ret ⟨rfl,rfl⟩))))
theorem a7b (d r:Nat) (h:d+r<1000) (k:Nat) (S:Sto):rn (k+2) a3z [.tup [.int (d:Int),.int (r:Int)]] S=.ok (.int ((tri (d+r)+d:Nat):Int)) S:=by
 refine d9 ?_
 rw [rn,c7 (fd:=b27) rfl,b9z]
 have e:b6r (.tup [.int (d:Int),.int (r:Int)]) S=.ok (.int ((d+r:Nat):Int)) S:=by
  show R.ok (D.int ((d:Int)+((r:Int)+0))) S=_
  rw [show ((d:Int)+((r:Int)+0))=((d+r:Nat):Int) by omega]
 exact Ok.eq e (Ok.eq (a7x (d+r) h k S) (Ok.eq rfl (Ok.eq (D9 _ _ _) (Ok.ret ⟨rfl,rfl⟩))))
noncomputable def pN (t:List Bool) (n i:Nat):Bool:=decide (tri (dn (t.take i)+rt (t.take i))+dn (t.take i)=n)
theorem c3z {h:Hnd} (hl:h.1.length<100) (n k:Nat) (S:Sto):Ok (rn (k+3) b4y [hdD h,.int (n:Int)]) S λd S'=>d=j0 (pN h.1 n) h/\S'=S:=by
 obtain ⟨t,w⟩:=h
 have hl:t.length<100:=hl
 rw [rn,c7 (fd:=z30_F) rfl,b9r,b9x]
 refine Ok.first<|Ok.cg (c6m ..)<|Ok.eq (a:=.nx [some (hdD (t,w)),some (.int (n:Int)),some (trD t),some w.d,none,none]) rfl<|Ok.nxt<|Ok.cg (d0s ..)<|Ok.eq (a:=(a1w (t.map j4),t.length+1)) (by show R.ok (a1w (t.map j4),(t.map j4).length+1) S=_;rw [List.length_map]) (Ok.bind ((Ok.for_ (n:=t.length) (λi ρ S'=>S'=S/\(∀ j,j<i->pN t n j=false)/\∃ o4 o5:Option D,ρ=[some (hdD (t,w)),some (.int (n:Int)),some (trD t),some w.d,o4,o5]) (λ_ _=>False) (λd S'=>d=j0 (pN t n) (t,w)/\S'=S) ?_ ?_ t.length 0 _ _ (by omega) ⟨rfl,λj hj=>by omega,_,_,rfl⟩).mono ?_))
 ·intro ρ S' _
  simp only [a1w]
  rw [List.getElem?_eq_none (by rw [List.length_map];exact Nat.le_refl _),List.length_map]
  simp
 ·rintro i ρ S' hi ⟨rfl,hp,o4,o5,rfl⟩
  have e1:(t.map j4)[i]?=some (j4 (t.getD i false)):=by
   rw [List.getElem?_map,List.getElem?_eq_getElem hi];simp [hi]
  refine ⟨.tup [.int (i:Int),j4 (t.getD i false)],[some (hdD (t,w)),some (.int (n:Int)),some (trD t),some w.d,some (.int (i:Int)),some (j4 (t.getD i false))],by simp only [a1w,e1],rfl,?_⟩
  unfold a59
  rw [a4l]
  refine Ok.first<|Ok.cg (b05 ..)<|Ok.eq (a:=some (i:Int)) rfl<|Ok.eq (a:=trD (t.take i)) (by show R.ok (D.tup (J0 (t.map j4) none (some (i:Int)))) S'=_;rw [a0f (by rw [List.length_map];omega),<- List.map_take];rfl)<|Ok.eq (V9 _ (k+1) S')<|Ok.eq (a7b _ _ (by rw [O6,List.length_take];omega) k S')<|Ok.eq (O2 _ _ _)<|Ok.eq (i6 _ _) ?_
  by_cases q:tri (dn (t.take i)+rt (t.take i))+dn (t.take i)=n
  ·refine Ok.pos (decide_eq_true (by omega)) (Ok.ret ⟨?_,rfl⟩)
   unfold j0
   rw [a33 hi hp (decide_eq_true q)]
  ·refine Ok.neg (by rw [decide_eq_false (by omega)];exact Bool.false_ne_true) (Ok.ret ⟨rfl,λj hj=>?_,_,_,rfl⟩)
   by_cases hji:j=i
   ·rw [hji];exact decide_eq_false q
   ·exact hp j (by omega)
 ·rintro fl S' hf
  cases fl with
  | nx ρ=>
   rcases hf with ⟨rfl,hp,o4,o5,rfl⟩ | hf
   ·refine Ok.nxt<|Ok.cg (c9w ..)<|Ok.eq (V9 t (k+1) S')<|Ok.eq (a7b _ _ (by rw [O6];omega) k S')<|Ok.eq (O2 _ _ _)<|Ok.eq (i6 _ _) ?_
    have e:(pN t n t.length)=decide (tri (dn t+rt t)+dn t=n):=by unfold pN;rw [List.take_length]
    by_cases q:tri (dn t+rt t)+dn t=n
    ·refine Ok.pos (decide_eq_true (by omega)) (Ok.ret ⟨?_,rfl⟩)
     unfold j0
     rw [A6 hp]
     simp only
     rw [e,decide_eq_true q,if_pos rfl]
    ·refine Ok.neg (by rw [decide_eq_false (by omega)];exact Bool.false_ne_true) (Ok.ret ⟨?_,rfl⟩)
     unfold j0
     rw [A6 hp]
     simp only
     rw [e,decide_eq_false q,if_neg Bool.false_ne_true]
   ·exact hf.elim
  | rt d=>exact Ok.ret hf
  | bk ρ=>exact hf.elim
  | ct ρ=>exact hf.elim
theorem a4p (ds:List D) (S:Sto):y9 (.tup ds) S=.ok (N7 ds,ds.length+1) S:=rfl
noncomputable def U7 (r:Nst) (b:Box) (p:Hnd->Nat->Bool):D:=.tup [oD b.1,.bl b.2,.tup (r.hs.map λh=>j0 (p h) h)]
theorem a0i {r:Nst} {b:Box} {n:Nat} (hb:r.bx[n]?=some b) (hl:∀ h∈r.hs,h.1.length<100) (hh:r.hs.length<=6) (o:D) (k:Nat) (S:Sto):Ok (rn (k+4) a2z [o,r.d,.int (n:Int)]) S λd S'=>d=U7 r b (λh=>pN h.1 n)/\S'=S:=by
 rw [rn,c7 (fd:=z22_F) rfl,b7o,b7x]
 refine Ok.first<|Ok.cg (c8x ..)<|Ok.eq (a:=.nx [some o,some r.d,some (.int (n:Int)),some (.tup (r.bx.map bxD)),some (.tup (r.hs.map hdD)),none,none]) rfl<|Ok.nxt<|Ok.cg (c8y ..)<|Ok.eq (k7 S (i8 hb))<|Ok.eq (a:=.nx [some o,some r.d,some (.int (n:Int)),some (.tup (r.bx.map bxD)),some (.tup (r.hs.map hdD)),some (oD b.1),some (.bl b.2)]) rfl<|Ok.nxt<|Ok.cg (c7e ..)<|nx_bind<|Ok.eq (a4p _ S) ?_
 rw [List.length_map]
 have e:=i7 (l:=r.hs) (h:=hdD) (g:=λh=>j0 (pN h.1 n) h) (p:=λ_=>true) (t:=λ_=>ret true) (f:=λd=>bind (rn (k+3) b4y [d,.int (n:Int)]) λx=>ret x) (S:=S) (U0 hh) (λa _=>rfl) (λa ha _=>by
  rw [b7 (d9 (c3z (hl a ha) n k S))];rfl)
 rw [List.filter_eq_self.mpr (by simp)] at e
 exact ⟨_,_,e,Ok.eq rfl (Ok.ret ⟨rfl,rfl⟩)⟩
theorem a5j {size:Nat} (h5:size<=5) (h0:0<size) (k:Nat) (S:Sto):rn (k+1) c2k [.int (size:Int)] S=.ok (.lst ((v3 size).map cD)) S:=by
 refine d9 ?_
 rw [rn,c7 (fd:=z35_F) rfl,c0n,c0i]
 refine Ok.first<|Ok.cg (c99 ..)<|Ok.nxt<|Ok.cg (c7i ..)<|Ok.eq (v9 (by omega) _) (Ok.bind ((Ok.loop (n:=size) (λi ρ S'=>S'=S/\∃ o:Option D,ρ=[some (.int (size:Int)),some (.lst ((v3 i).map cD)),o]) (λρ S' _=>u4 _ S') ?_ ⟨rfl,_,rfl⟩).mono ?_))
 ·rintro i ρ S' hi ⟨rfl,o,rfl⟩
  refine ⟨.int (i:Int),[some (.int (size:Int)),some (.lst ((v3 i).map cD)),some (.int (i:Int))],A0 hi S',rfl,?_⟩
  unfold a6e
  rw [a6g]
  refine Ok.first<|Ok.cg (b0w ..)<|nx_bind<|Ok.eq (D9 i 1 S')<|Ok.eq (v9 (by omega) _) ?_
  have e:=a7z (n:=i+1) (lo:=0) (f:=λd1=>bind (a08 (.int (i:Int)) d1) λx4=>ret (.tup [d1,x4])) (g:=λr=>cD (r,i-r)) (S:=S') (U0 (by omega)) (λr hr=>by
   rw [show ((0:Int)+(r:Int))=(r:Int) by omega,b7 (a3o (by omega) S')];rfl)
  refine ⟨_,_,e,Ok.eq (a:=.lst ((v3 (i+1)).map cD)) ?_ (Ok.ret ⟨_,.inl rfl,rfl,_,rfl⟩)⟩
  have ei:i=0\/i=1\/i=2\/i=3\/i=4:=by omega
  rcases ei with rfl | rfl | rfl | rfl | rfl <;> kernel_rfl
 ·rintro _ S' ⟨ρ,rfl,rfl,o,rfl⟩
  exact Ok.nxt<|Ok.cg (c79 ..)<|Ok.ret ⟨rfl,rfl⟩
theorem c1m (a b:Nat) (c:Nat×Nat) (S:Sto):b8 .Eq (.tup [.int (a:Int),.int (b:Int)]) (cD c) S=.ok (.bl (decide ((a,b)=c))) S:=by
 obtain ⟨x,y⟩:=c
 have:b8 .Eq (.tup [.int (a:Int),.int (b:Int)]) (cD (x,y)) S=.ok (.bl (decide ((a:Int)=x)&&(decide ((b:Int)=y)&&true))) S:=rfl
 rw [this]
 congr 2
 by_cases h1:a=x <;> by_cases h2:b=y <;> simp [h1,h2] <;> omega
theorem a9j (b:Bool) (S:Sto):(bind (b8 .Eq (j4 b) (.str "down")) λx=>a5a x) S=.ok (.int ((if b=true then 1 else 0:Nat):Int)) S/\(bind (b8 .Eq (j4 b) (.str "right")) λx=>a5a x) S=.ok (.int ((if b=true then 0 else 1:Nat):Int)) S:=by
 cases b <;> exact ⟨rfl,rfl⟩
theorem b5g (h:Hnd) (c:Nat×Nat) (k:Nat) (S:Sto):Ok (rn (k+1) b5s [hdD h,cD c]) S λd S'=>d=j0 (pC h.1 c) h/\S'=S:=by
 obtain ⟨t,w⟩:=h
 rw [rn,c7 (fd:=z19_F) rfl,b7j,b61]
 refine Ok.first<|Ok.cg (c88 ..)<|Ok.nxt<|Ok.cg (d0v ..)<|Ok.eq (a:=trD t) rfl<|Ok.eq (a:=(N7 (t.map j4),t.length+1)) (by show R.ok (N7 (t.map j4),(t.map j4).length+1) S=_;rw [List.length_map]) (Ok.bind ((Ok.for_ (n:=t.length) (λi ρ S'=>S'=S/\(∀ j,j<i->pC t c j=false)/\∃ o4:Option D,ρ=[some (hdD (t,w)),some (cD c),some (.int (dn (t.take i):Int)),some (.int (rt (t.take i):Int)),o4]) (λ_ _=>False) (λd S'=>d=j0 (pC t c) (t,w)/\S'=S) ?_ ?_ t.length 0 _ _ (by omega) ⟨rfl,λj hj=>by omega,_,rfl⟩).mono ?_))
 ·intro ρ S' _
  show some (t.map j4)[t.length]?=some none
  rw [List.getElem?_eq_none (by rw [List.length_map];exact Nat.le_refl _)]
 ·rintro i ρ S' hi ⟨rfl,hp,o4,rfl⟩
  have e1:(t.map j4)[i]?=some (j4 (t.getD i false)):=by
   rw [List.getElem?_map,List.getElem?_eq_getElem hi];simp [hi]
  have tk:t.take (i+1)=t.take i++[t.getD i false]:=by
   rw [List.take_succ_eq_append_getElem hi];simp [hi]
  refine ⟨j4 (t.getD i false),[some (hdD (t,w)),some (cD c),some (.int (dn (t.take i):Int)),some (.int (rt (t.take i):Int)),some (j4 (t.getD i false))],by show some (t.map j4)[i]?=_;rw [e1],rfl,?_⟩
  unfold a6c
  rw [a5b]
  refine Ok.first<|Ok.cg (a9s ..)<|Ok.eq (c1m _ _ c S')<|Ok.eq (i6 _ _) ?_
  by_cases q:(dn (t.take i),rt (t.take i))=c
  ·refine Ok.pos (decide_eq_true q) (Ok.ret ⟨?_,rfl⟩)
   unfold j0
   rw [a33 hi hp (decide_eq_true q)]
  ·refine Ok.neg (by rw [decide_eq_false q];exact Bool.false_ne_true) ?_
   generalize hb:t.getD i false=b at tk
   refine Ok.nxt<|Ok.cg (a9r ..) ?_
   have w1:=(a9j b S').1
   have w2:=(a9j b S').2
   have st:∀ {α:Type} (m:M D) (k:D->M α) (x:D),(L3.bind m λx=>a5a x) S'=.ok x S'->(L3.bind m λx1=>L3.bind (a5a x1) k) S'=k x S':=λm k x e=>by
    rw [<- a8];exact b7 e
   refine Ok.cgS (st _ _ _ w1) (Ok.eq (D9 _ _ _)<|Ok.nxt<|Ok.cg (b1e ..)<|Ok.cgS (st _ _ _ w2) (Ok.eq (D9 _ _ _) (Ok.ret ⟨rfl,λj hj=>?_,some (j4 b),?_⟩)))
   ·by_cases hji:j=i
    ·rw [hji];exact decide_eq_false q
    ·exact hp j (by omega)
   ·rw [tk,a9k,a9i]
 ·rintro fl S' hf
  cases fl with
  | nx ρ=>
   rcases hf with ⟨rfl,hp,o4,rfl⟩ | hf
   ·rw [List.take_length]
    refine Ok.nxt<|Ok.cg (c8b ..)<|Ok.eq (c1m _ _ c S')<|Ok.eq (i6 _ _) ?_
    have e:(pC t c t.length)=decide ((dn t,rt t)=c):=by unfold pC;rw [List.take_length]
    by_cases q:(dn t,rt t)=c
    ·refine Ok.pos (decide_eq_true q) (Ok.eq rfl (Ok.ret ⟨?_,rfl⟩))
     unfold j0
     rw [A6 hp]
     simp only
     rw [e,decide_eq_true q,if_pos rfl]
    ·refine Ok.neg (by rw [decide_eq_false q];exact Bool.false_ne_true) (Ok.ret ⟨?_,rfl⟩)
     unfold j0
     rw [A6 hp]
     simp only
     rw [e,decide_eq_false q,if_neg Bool.false_ne_true]
   ·exact hf.elim
  | rt d=>exact Ok.ret hf
  | bk ρ=>exact hf.elim
  | ct ρ=>exact hf.elim
theorem c2t {r:Nst} {b:Box} {n size:Nat} {c:Nat×Nat} (h5:size<=5) (h0:0<size) (hb:r.bx[n]?=some b) (hc:(v3 size)[n]?=some c) (hh:r.hs.length<=6) (k:Nat) (S:Sto):Ok (rn (k+2) b38 [.int (size:Int),r.d,.int (n:Int)]) S λd S'=>d=U7 r b (λh=>pC h.1 c)/\S'=S:=by
 rw [rn,c7 (fd:=b4n) rfl,c0m]
 refine Ok.eq (a5j h5 h0 k S)<|Ok.eq (b3l S (i8 hc))<|Ok.eq (a:=.tup (r.bx.map bxD)) rfl<|Ok.eq (k7 S (i8 hb))<|nx_bind<|Ok.eq (a:=.tup (r.hs.map hdD)) rfl<|Ok.eq (a4p _ S) ?_
 rw [List.length_map]
 have e:=i7 (l:=r.hs) (h:=hdD) (g:=λh=>j0 (pC h.1 c) h) (p:=λ_=>true) (t:=λ_=>ret true) (f:=λd=>bind (rn (k+1) b5s [d,cD c]) λx=>ret x) (S:=S) (U0 hh) (λa _=>rfl) (λa ha _=>by
  rw [b7 (d9 (b5g a c k S))];rfl)
 rw [List.filter_eq_self.mpr (by simp)] at e
 exact ⟨_,_,e,Ok.eq rfl (Ok.eq (a:=U7 r b λh=>pC h.1 c) rfl (Ok.ret ⟨rfl,rfl⟩))⟩
theorem a6b {r:Nst} {b:Box} {n size:Nat} {c:Nat×Nat} (h5:size<=5) (hc:(v3 size)[n]?=some c) (hl:∀ h∈r.hs,h.1.length<size):U7 r b (λh=>pN h.1 n)=U7 r b (λh=>pC h.1 c):=by
 unfold U7
 have:(r.hs.map λh=>j0 (pN h.1 n) h)=r.hs.map λh=>j0 (pC h.1 c) h:=List.map_congr_left λh hm=>b0m λi hi=>c5b h5 (by rw [O6,List.length_take];have:=hl h hm;omega) hc
 rw [this]
noncomputable def bh (mk:Option Nat) (cl:Bool) (i:Nat):Wd->Option (Option Nat×Bool×Str)
 | .out=>some (some i,cl,"ask")
 | .ask=>some (mk,cl,if cl=true then "right" else "close")
 | .close=>some (mk,true,"look")
 | .look=>some (mk,cl,if mk=some i then "holds" else "down")
 | .holds=>none
noncomputable def bhD (mk:Option Nat) (cl:Bool) (i:Nat) (w:Wd) (ws:List D):D:=match bh mk cl i w with
 | none=>.non
 | some (m,c,x)=>.tup [oD m,.bl c,.tup (ws.set i (.str x))]
theorem a8w {mk:Option Nat} {cl:Bool} {i:Nat} (h:mk=some i):bh mk cl i .look=some (mk,cl,("holds" : Str)):=by
 show some (mk,cl,if mk=some i then ("holds" : Str) else "down")=_
 rw [if_pos h]
theorem a4r {mk:Option Nat} {cl:Bool} {i:Nat} (h:mk≠some i):bh mk cl i .look=some (mk,cl,("down" : Str)):=by
 show some (mk,cl,if mk=some i then ("holds" : Str) else "down")=_
 rw [if_neg h]
theorem c1z {S:Sto} {o:O} {kvs:List (Key×D)} (h:o=.dct kvs) (w:Str):getDD (.ref S.length) [.str w] (S++[o])=.ok ((X3 kvs (.inr w)).getD .non) (S++[o]):=by
 subst h
 have ef:(S++[O.dct kvs])[S.length]?=some (.dct kvs):=by simp
 simp only [getDD,ef]
 rfl
theorem b0n {mk:Option Nat} {cl:Bool} {i:Nat} {w:Wd} {ws:List D} (hw:ws[i]?=some w.d) (hl:ws.length<=6) (k:Nat) (S:Sto):Ok (rn (k+1) c32 [.tup [oD mk,.bl cl,.tup ws],.int (i:Int)]) S λd S'=>d=bhD mk cl i w ws/\Ex S S':=by
 have hi:i<ws.length:=(List.getElem?_eq_some_iff.mp hw).1
 rw [rn,c7 (fd:=z31_F) rfl,b8q,b6x]
 refine Ok.first<|Ok.cg (c64 ..)<|Ok.eq (a:=.nx [some (.tup [oD mk,.bl cl,.tup ws]),some (.int (i:Int)),some (oD mk),some (.bl cl),some (.tup ws),none,none]) rfl<|Ok.nxt<|Ok.cg (c66 ..)<|Ok.eq (k7 S hw)<|Ok.nxt<|Ok.cg (d0i ..)<|Ok.eq (a:=cl) rfl ?_
 have last:∀ (x:Str) (S':Sto) (o1:Option D),Ex S S'->(∃ m c,bh mk cl i w=some (m,c,x))->Ok (nxt (evK Rs Γ (rn k) 40) K0 [nth z31_F.body 4,nth z31_F.body 5,nth z31_F.body 6] endD (.nx [o1,some (.int (i:Int)),some (oD mk),some (.bl cl),some (.tup ws),some w.d,some (.str x)])) S' λd S'=>d=bhD mk cl i w ws/\Ex S S':=by
  rintro x S' o1 hS ⟨m,c,hb⟩
  refine Ok.nxt<|Ok.cg (c09 ..)<|Ok.eq (a:=.bl false) rfl<|Ok.eq rfl<|Ok.neg (by decide)<|Ok.nxt<|Ok.cg (d0b ..) ?_
  have g:=a39 (x:=.str x) (S:=S') hi (by omega)
  have g2:∀ {α:Type} (κ:D->M α),(bind (B6 (.int (i:Int))) λn1=>bind (slD (.tup ws) none n1) λx2=>bind (f9 x2 (.tup [.str x])) λx3=>bind (f9 (.int (i:Int)) (.int 1)) λx4=>bind (B6 x4) λn5=>bind (slD (.tup ws) n5 none) λx6=>bind (f9 x3 x6) κ)=bind (bind (B6 (.int (i:Int))) λn1=>bind (slD (.tup ws) none n1) λx2=>bind (f9 x2 (.tup [.str x])) λx3=>bind (f9 (.int (i:Int)) (.int 1)) λx4=>bind (B6 x4) λn5=>bind (slD (.tup ws) n5 none) λx6=>bind (f9 x3 x6) λx7=>ret x7) κ:=λκ=>by
   simp only [a8,j9]
  refine Ok.cg (g2 _) (Ok.bind (g.mono ?_))
  rintro _ _ ⟨rfl,rfl⟩
  refine Ok.nxt<|Ok.cg (c62 ..) ?_
  have fin:∀ (y z:D) (S':Sto),Ex S S'->y=oD m->z=.bl c->Ok (nxt (evK Rs Γ (rn k) 40) K0 [] endD (.rt (.tup [y,z,.tup (ws.set i (.str x))]))) S' λd S'=>d=bhD mk cl i w ws/\Ex S S':=by
   rintro y z S' hS rfl rfl
   refine Ok.ret ⟨?_,hS⟩
   unfold bhD;rw [hb]
  cases w with
  | out=>
   cases hb
   refine Ok.eq rfl<|Ok.eq rfl<|Ok.pos rfl<|Ok.eq (a:=cl) rfl ?_
   cases cl with
   | true=>exact Ok.pos rfl (fin _ _ _ hS rfl rfl)
   | false=>exact Ok.neg (by decide) (Ok.eq (a:=.bl false) rfl (fin _ _ _ hS rfl rfl))
  | ask=>
   cases hb
   refine Ok.eq (a:=.bl false) rfl<|Ok.eq rfl<|Ok.neg (by decide)<|Ok.eq (a:=cl) rfl ?_
   cases cl with
   | true=>exact Ok.pos rfl (fin _ _ _ hS rfl rfl)
   | false=>exact Ok.neg (by decide) (Ok.eq (a:=.bl false) rfl (fin _ _ _ hS rfl rfl))
  | close=>
   cases hb
   refine Ok.eq (a:=.bl false) rfl<|Ok.eq rfl<|Ok.neg (by decide)<|Ok.eq (a:=cl) rfl ?_
   cases cl with
   | true=>exact Ok.pos rfl (fin _ _ _ hS rfl rfl)
   | false=>exact Ok.neg (by decide) (Ok.eq (a:=.bl true) rfl (fin _ _ _ hS rfl rfl))
  | look=>
   cases hb
   refine Ok.eq (a:=.bl false) rfl<|Ok.eq rfl<|Ok.neg (by decide)<|Ok.eq (a:=cl) rfl ?_
   cases cl with
   | true=>exact Ok.pos rfl (fin _ _ _ hS rfl rfl)
   | false=>exact Ok.neg (by decide) (Ok.eq (a:=.bl false) rfl (fin _ _ _ hS rfl rfl))
  | holds=>cases hb
 have mid:∀ (o:O) (o1:Option D),Ok (nxt (evK Rs Γ (rn k) 40) K0 [nth z31_F.body 3,nth z31_F.body 4,nth z31_F.body 5,nth z31_F.body 6] endD (.nx [o1,some (.int (i:Int)),some (oD mk),some (.bl cl),some (.tup ws),some w.d,some (match w with
   | .out=>.str "ask"
   | .ask=>.str (if cl=true then "right" else "close")
   | .close=>.str "look"
   | .look=>.str "down"
   | .holds=>.non)])) (S++[o]) λd S'=>d=bhD mk cl i w ws/\Ex S S':=λo o1=>by
  have hS:Ex S (S++[o]):=⟨_,rfl⟩
  refine Ok.nxt<|Ok.cg (c69 ..) ?_
  cases w with
  | out=>exact Ok.eq (a:=.bl false) rfl<|Ok.eq rfl<|Ok.neg (by decide)<|last _ _ _ hS ⟨_,_,rfl⟩
  | ask=>exact Ok.eq (a:=.bl false) rfl<|Ok.eq rfl<|Ok.neg (by decide)<|last _ _ _ hS ⟨_,_,rfl⟩
  | close=>exact Ok.eq (a:=.bl false) rfl<|Ok.eq rfl<|Ok.neg (by decide)<|last _ _ _ hS ⟨_,_,rfl⟩
  | look=>
   refine Ok.eq (a:=.bl true) rfl<|Ok.eq rfl<|Ok.pos rfl ?_
   cases mk with
   | none=>exact Ok.eq (a:=.bl false) rfl<|Ok.eq rfl<|Ok.neg (by decide)<|last _ _ _ hS ⟨_,_,a4r (by simp)⟩
   | some g=>
    refine Ok.eq (a:=.bl true) rfl<|Ok.eq rfl<|Ok.pos rfl<|Ok.eq (O2 _ _ _)<|Ok.eq rfl ?_
    by_cases q:g=i
    ·exact Ok.pos (decide_eq_true (by omega))<|last _ _ _ hS ⟨_,_,a8w (by rw [q])⟩
    ·exact Ok.neg (by rw [decide_eq_false (by omega)];exact Bool.false_ne_true)<|last _ _ _ hS ⟨_,_,a4r (by simpa using q)⟩
  | holds=>
   exact Ok.eq (a:=.bl false) rfl<|Ok.eq rfl<|Ok.neg (by decide)<|Ok.nxt<|Ok.cg (c09 ..)<|Ok.eq (a:=.bl true) rfl<|Ok.eq rfl<|Ok.pos rfl<|Ok.ret ⟨rfl,hS⟩
 have gd:∀ (kvs:List (Key×D)),dctOf (.ref S.length) (S++[.dct kvs])=.ok () (S++[.dct kvs]):=λkvs=>by
  have ef:(S++[O.dct kvs])[S.length]?=some (.dct kvs):=by simp
  simp only [dctOf,ef]
 cases cl with
 | true=>
  refine Ok.pos rfl<|Ok.eq (a:=.ref S.length) (S1:=S++[.dct [(.inr "out",.str "ask"),(.inr "ask",.str "right"),(.inr "close",.str "look"),(.inr "look",.str "down")]]) rfl<|Ok.eq (gd _)<|Ok.eq (c1z rfl w.s) ?_
  have:=mid (.dct [(.inr "out",.str "ask"),(.inr "ask",.str "right"),(.inr "close",.str "look"),(.inr "look",.str "down")]) (some (.tup [oD mk,.bl true,.tup ws]))
  cases w <;> exact this
 | false=>
  refine Ok.neg (by decide)<|Ok.eq (a:=.ref S.length) (S1:=S++[.dct [(.inr "out",.str "ask"),(.inr "ask",.str "close"),(.inr "close",.str "look"),(.inr "look",.str "down")]]) rfl<|Ok.eq (gd _)<|Ok.eq (c1z rfl w.s) ?_
  have:=mid (.dct [(.inr "out",.str "ask"),(.inr "ask",.str "close"),(.inr "close",.str "look"),(.inr "look",.str "down")]) (some (.tup [oD mk,.bl false,.tup ws]))
  cases w <;> exact this
theorem c6v {t:List Bool} (hl:t.length<100) (k:Nat) (S:Sto):rn (k+1) c4v [trD t] S=.ok (.int (i9 t:Int)) S:=by
 refine d9 ?_
 rw [rn,c7 (fd:=b2l) rfl,b65]
 refine nx_bind<|Ok.eq (a:=(N7 (t.map j4),t.length+1)) (by show R.ok (N7 (t.map j4),(t.map j4).length+1) S=_;rw [List.length_map]) ?_
 have e:=i7 (l:=t) (h:=j4) (g:=j4) (p:=id) (t:=λd1=>bind (b8 .Eq d1 (.str "down")) λx3=>bind (asB x3) λz4=>ret z4) (f:=λd1=>ret d1) (S:=S) (by rw [sizeLine_eq];omega) (λa _=>by cases a <;> rfl) (λa _ _=>rfl)
 refine ⟨_,_,e,?_⟩
 refine Ok.eq (a18 _ _) ?_
 rw [List.length_map,show (t.filter id).length=dn t from (List.countP_eq_length_filter (p:=id) (l:=t)).symm]
 have l2:j8 (trD t) S=.ok (.int (t.length:Int)) S:=(u6 _ S).trans (by rw [List.length_map])
 refine Ok.eq l2<|Ok.eq l2<|Ok.eq (D9 t.length 1 S)<|Ok.eq (T4 (.inl ⟨by omega,by omega⟩) S)<|Ok.eq (T9 (by decide) (by decide) S) ?_
 have:((t.length:Int) * ((t.length+1:Nat):Int) / 2)=((tri t.length:Nat):Int):=by
  rw [<- Int.natCast_mul];exact (Int.natCast_ediv (t.length * (t.length+1)) 2).symm
 rw [this]
 exact Ok.eq (D9 _ _ _) (Ok.ret ⟨rfl,rfl⟩)
theorem b3o {size:Nat} (h5:size<=5) {t:List Bool} (ht:t.length<size):i9 t<tri size:=by
 have h1:dn t<=t.length:=by have:=O6 t;omega
 unfold i9
 generalize t.length=l at *
 generalize dn t=d at *
 have t0:tri 0=0:=rfl
 have t1:tri 1=1:=rfl
 have t2:tri 2=3:=rfl
 have t3:tri 3=6:=rfl
 have t4:tri 4=10:=rfl
 have t5:tri 5=15:=rfl
 have a:size=1\/size=2\/size=3\/size=4\/size=5:=by omega
 have b:l=0\/l=1\/l=2\/l=3\/l=4:=by omega
 rcases a with rfl | rfl | rfl | rfl | rfl <;> rcases b with rfl | rfl | rfl | rfl | rfl <;> omega
theorem a8n {n:Nat} (h:n<=6) (S:Sto):C7 (.lst [.str "out"]) (.int (n:Int)) S=.ok (.lst (List.replicate n (.str "out"))) S:=by
 have a:n=0\/n=1\/n=2\/n=3\/n=4\/n=5\/n=6:=by omega
 rcases a with rfl | rfl | rfl | rfl | rfl | rfl | rfl <;> kernel_rfl
theorem c1p {xs ys:List D} (h:xs.length+ys.length<=sizeLine) (S:Sto):f9 (.lst xs) (.lst ys) S=.ok (.lst (xs++ys)) S:=by
 show (if xs.length+ys.length<=sizeLine then ret (D.lst (xs++ys)) else bad) S=_
 rw [if_pos h];rfl
noncomputable def gD:Option Nst->D
 | none=>.non
 | some r=>r.d
theorem R6 {ds:List D} {i:Nat} (h:i<=ds.length) (S:Sto):slD (.tup ds) none (some (i:Int)) S=.ok (.tup (ds.take i)) S:=by
 rw [<- a0f h];rfl
theorem P5 {ds:List D} {i:Nat} (h:i<ds.length) (S:Sto):slD (.tup ds) (some ((i:Int)+1)) none S=.ok (.tup (ds.drop (i+1))) S:=by
 rw [<- a40 (by omega)];rfl
theorem Q8 {ds:List D} {i:Nat} (h:i<ds.length) (x:D):ds.take i++[x]++ds.drop (i+1)=ds.set i x:=by
 rw [List.set_eq_take_append_cons_drop,if_pos h,List.append_assoc];rfl
section
variable {size many:Nat} {r:Nst} (V:VN size many r) {i:Nat} (hi:i<many) (k:Nat) (S:Sto)
include V hi
theorem a9e {t':List Bool} {w':Wd} {m:Option Nat} {c:Bool} {n:Nat} {ws:List D} (hn:n<r.bx.length) (o4 o5 o7 o10:Option D) (S':Sto) (hS:Ex S S') (ht:t'.length<=5) :
  Ok (nxt (evK Rs Γ (rn (k+1)) 40) N8 [nth z7_F.body 7,nth z7_F.body 8,nth z7_F.body 9] endD (.nx [some (.int (size:Int)),some r.d,some (.int (i:Int)),o4,o5,some (.int (n:Int)),o7,some (.tup [oD m,.bl c,.tup ws]),some (hdD (t',w')),o10])) S' λd S'=>d=gD (j3 size r i n (m,c) t' w')/\Ex S S':=by
 have b1:=V.bl
 have b2:=V.hl
 have b3:=V.s5
 have b4:=V.m5
 have b5:tri size<=15:=by
  have a:size=0\/size=1\/size=2\/size=3\/size=4\/size=5:=by omega
  rcases a with rfl | rfl | rfl | rfl | rfl | rfl <;> decide
 have sz:(1000:Nat)<=sizeLine:=by decide
 have l0:j8 (trD t') S'=.ok (.int (t'.length:Int)) S':=(u6 _ S').trans (by rw [List.length_map])
 refine Ok.nxt<|Ok.cg (d2q ..)<|Ok.eq (a:=trD t') rfl<|Ok.eq l0<|Ok.eq (a49 _ _ _)<|Ok.eq (i6 _ _) ?_
 by_cases q:size<=t'.length
 ·refine Ok.pos (decide_eq_true (by omega)) (Ok.ret ⟨?_,hS⟩)
  unfold j3;rw [if_pos q];rfl
 ·refine Ok.neg (by rw [decide_eq_false (by omega)];exact Bool.false_ne_true) ?_
  have lb:(r.bx.map bxD).length=r.bx.length:=List.length_map ..
  have lh:(r.hs.map hdD).length=r.hs.length:=List.length_map ..
  refine Ok.nxt<|Ok.cg (d02 ..)<|Ok.eq (a:=.tup (r.bx.map bxD)) rfl<|Ok.eq (a:=some (n:Int)) rfl<|Ok.eq (R6 (by rw [lb];omega) S')<|Ok.eq (a:=.tup [oD m,.bl c]) rfl<|Ok.eq (cat_tup (by simp;omega))<|Ok.eq (a:=.tup (r.bx.map bxD)) rfl<|Ok.eq (a:=.int ((n:Int)+1)) rfl<|Ok.eq (a:=some ((n:Int)+1)) rfl<|Ok.eq (P5 (by rw [lb];omega) S')<|Ok.eq (cat_tup (by simp;omega)) ?_
  rw [Q8 (by rw [lb];exact hn)]
  refine Ok.nxt<|Ok.cg (d1u ..)<|Ok.eq (a:=.tup (r.hs.map hdD)) rfl<|Ok.eq (a:=some (i:Int)) rfl<|Ok.eq (R6 (by rw [lh];omega) S')<|Ok.eq (cat_tup (by simp;omega))<|Ok.eq (a:=.tup (r.hs.map hdD)) rfl<|Ok.eq (a:=.int ((i:Int)+1)) rfl<|Ok.eq (a:=some ((i:Int)+1)) rfl<|Ok.eq (P5 (by rw [lh];omega) S')<|Ok.eq (cat_tup (by simp;omega)) ?_
  rw [Q8 (by rw [lh];omega)]
  refine Ok.ret ⟨?_,hS⟩
  unfold j3;rw [if_neg q]
  show D.tup [.tup ((r.bx.map bxD).set n (bxD (m,c))),.tup ((r.hs.map hdD).set i (hdD (t',w')))]=.tup [.tup ((r.bx.set n (m,c)).map bxD),.tup ((r.hs.set i (t',w')).map hdD)]
  rw [List.map_set,List.map_set]
theorem c2a:Ok (rn (k+2) c1a [.int (size:Int),r.d,.int (i:Int)]) S λd S'=>d=gD (j7 size r i)/\Ex S S':=by
 have b1:=V.bl
 have b2:=V.hl
 have b3:=V.s5
 have b4:=V.m5
 have sz:(1000:Nat)<=sizeLine:=by decide
 have hi':i<r.hs.length:=by omega
 have ha:r.hs[i]?=some r.hs[i]:=List.getElem?_eq_getElem hi'
 have htr:=V.tr r.hs[i] (List.getElem_mem hi')
 generalize r.hs[i]=h at ha htr
 obtain ⟨t,w⟩:=h
 have htr:t.length<size:=htr
 have hn:i9 t<r.bx.length:=by rw [b1];exact b3o b3 htr
 have hb:r.bx[i9 t]?=some r.bx[i9 t]:=List.getElem?_eq_getElem hn
 generalize r.bx[i9 t]=b at hb
 obtain ⟨mk,cl⟩:=b
 have hst:=a51 (size:=size) ha hb
 rw [rn,c7 (fd:=z7_F) rfl,c2x,c25]
 have lh:j8 (.tup (r.hs.map hdD)) S=.ok (.int (r.hs.length:Int)) S:=(u6 _ S).trans (by rw [List.length_map])
 refine Ok.first<|Ok.cg (d1x ..)<|Ok.eq (a:=.tup (r.hs.map hdD)) rfl<|Ok.eq (k7 S (i8 ha))<|Ok.eq (a:=.nx [some (.int (size:Int)),some r.d,some (.int (i:Int)),some (trD t),some w.d,none,none,none,none,none]) rfl<|Ok.nxt<|Ok.cg (d04 ..)<|Ok.eq (c6v (by omega) k S)<|Ok.nxt<|Ok.cg (d1p ..)<|Ok.eq (a8n (by omega) S)<|Ok.eq (c1p (by simp;omega) S)<|Ok.eq (a:=.tup (r.hs.map hdD)) rfl<|Ok.eq lh<|Ok.eq (a3o (by omega) S)<|Ok.eq (a3o (b:=1) (by omega) S)<|Ok.eq (a8n (by omega) S)<|Ok.eq (c1p (by simp;omega) S) ?_
 generalize hws:List.replicate i (D.str "out")++[w.d]++List.replicate (r.hs.length-i-1) (D.str "out")=ws
 have wl:ws.length<=6:=by rw [<- hws];simp;omega
 have wi:ws[i]?=some w.d:=by
  rw [<- hws,List.append_assoc,List.getElem?_append_right (by simp)]
  simp
 refine Ok.nxt<|Ok.cg (d1d ..)<|Ok.eq (a:=.tup (r.bx.map bxD)) rfl<|Ok.eq (k7 S (i8 hb))<|Ok.eq (a:=.tup ws) rfl<|Ok.eq (a:=.tup [oD mk,.bl cl,.tup ws]) rfl<|Ok.bind ((b0n wi wl k S).mono ?_)
 rintro _ S1 ⟨rfl,hS⟩
 refine Ok.nxt<|Ok.cg (d1k ..) ?_
 have stay:∀ (m:Option Nat) (c:Bool) (w':Wd),bh mk cl i w=some (m,c,w'.s)->j7 size r i=j3 size r i (i9 t) (m,c) t w'->Ok (bind (b8 .Is (bhD mk cl i w ws) .non) λx1=>bind (asB x1) λz2=>if z2=true then nxt (evK Rs Γ (rn (k+1)) 40) N8 [nth z7_F.body 5,nth z7_F.body 6,nth z7_F.body 7,nth z7_F.body 8,nth z7_F.body 9] endD (.rt .non) else nxt (evK Rs Γ (rn (k+1)) 40) N8 [nth z7_F.body 5,nth z7_F.body 6,nth z7_F.body 7,nth z7_F.body 8,nth z7_F.body 9] endD (.nx [some (.int (size:Int)),some r.d,some (.int (i:Int)),some (trD t),some w.d,some (.int (i9 t:Int)),some (.lst ws),some (bhD mk cl i w ws),none,none])) S1 λd S'=>d=gD (j7 size r i)/\Ex S S':=by
  intro m c w' e1 e2
  have eb:bhD mk cl i w ws=.tup [oD m,.bl c,.tup (ws.set i w'.d)]:=by unfold bhD;rw [e1];rfl
  rw [eb,e2]
  have wi2:(ws.set i w'.d)[i]?=some w'.d:=List.getElem?_set_self (List.getElem?_eq_some_iff.mp wi).1
  refine Ok.eq (a:=.bl false) rfl<|Ok.eq rfl<|Ok.neg (by decide)<|Ok.nxt<|Ok.cg (c8k ..)<|Ok.eq (a:=.tup (ws.set i w'.d)) rfl<|Ok.eq (k7 S1 wi2)<|Ok.nxt<|Ok.cg (c8u ..)<|Ok.eq (a:=w'.d) rfl<|Ok.eq (S1:=S1) (a:=.bl false) (by cases w' <;> kernel_rfl)<|Ok.eq rfl<|Ok.neg (by decide) ?_
  exact a9e V hi k S hn _ _ _ _ S1 hS (by omega)
 have leave:∀ (m:Option Nat) (c b:Bool),bh mk cl i w=some (m,c,L6 b)->j7 size r i=j3 size r i (i9 t) (m,c) (t++[b]) .out->Ok (bind (b8 .Is (bhD mk cl i w ws) .non) λx1=>bind (asB x1) λz2=>if z2=true then nxt (evK Rs Γ (rn (k+1)) 40) N8 [nth z7_F.body 5,nth z7_F.body 6,nth z7_F.body 7,nth z7_F.body 8,nth z7_F.body 9] endD (.rt .non) else nxt (evK Rs Γ (rn (k+1)) 40) N8 [nth z7_F.body 5,nth z7_F.body 6,nth z7_F.body 7,nth z7_F.body 8,nth z7_F.body 9] endD (.nx [some (.int (size:Int)),some r.d,some (.int (i:Int)),some (trD t),some w.d,some (.int (i9 t:Int)),some (.lst ws),some (bhD mk cl i w ws),none,none])) S1 λd S'=>d=gD (j7 size r i)/\Ex S S':=by
  intro m c b e1 e2
  have eb:bhD mk cl i w ws=.tup [oD m,.bl c,.tup (ws.set i (j4 b))]:=by unfold bhD;rw [e1];rfl
  rw [eb,e2]
  have wi2:(ws.set i (j4 b))[i]?=some (j4 b):=List.getElem?_set_self (List.getElem?_eq_some_iff.mp wi).1
  have et:f9 (trD t) (.tup [j4 b]) S1=.ok (trD (t++[b])) S1:=by
   rw [trD,cat_tup (by simp;omega)]
   show R.ok (D.tup (t.map j4++[j4 b])) S1=.ok (.tup ((t++[b]).map j4)) S1
   rw [List.map_append];rfl
  refine Ok.eq (a:=.bl false) rfl<|Ok.eq rfl<|Ok.neg (by decide)<|Ok.nxt<|Ok.cg (c8k ..)<|Ok.eq (a:=.tup (ws.set i (j4 b))) rfl<|Ok.eq (k7 S1 wi2)<|Ok.nxt<|Ok.cg (c8u ..)<|Ok.eq (a:=j4 b) rfl<|Ok.eq (S1:=S1) (a:=.bl true) (by cases b <;> kernel_rfl)<|Ok.eq rfl<|Ok.pos rfl<|Ok.eq (a:=j4 b) rfl<|Ok.eq et ?_
  exact a9e V hi k S (w':=.out) hn _ _ _ _ S1 hS (by simp;omega)
 cases w with
 | out=>exact stay (some i) cl .ask rfl hst
 | ask=>
  cases cl with
  | true=>exact leave mk true false rfl hst
  | false=>exact stay mk false .close rfl hst
 | close=>exact stay mk true .look rfl hst
 | look=>
  by_cases q:mk=some i
  ·exact stay mk cl .holds (a8w q) (by rw [hst];exact if_pos q)
  ·exact leave mk cl true (a4r q) (by rw [hst];exact if_neg q)
 | holds=>
  have eb:bhD mk cl i .holds ws=.non:=rfl
  rw [eb,hst]
  exact Ok.eq (a:=.bl true) rfl<|Ok.eq rfl<|Ok.pos rfl<|Ok.ret ⟨rfl,hS⟩
omit k S in
theorem VN.step {r':Nst} (e:j7 size r i=some r'):VN size many r':=by
 have put:∀ {n:Nat} {b:Box} {t:List Bool} {w:Wd},j3 size r i n b t w=some r'->(∀ g,b.1=some g->g<many)->VN size many r':=by
  intro n b t w e hb
  unfold j3 at e
  split at e
  ·cases e
  ·rename_i q
   cases e
   refine ⟨V.s5,V.m5,by simp [V.bl],by simp [V.hl],λh hh=>?_,λx hx=>?_⟩
   ·rcases List.mem_or_eq_of_mem_set hh with z | z
    ·exact V.tr h z
    ·rw [z];show t.length<size;omega
   ·rcases List.mem_or_eq_of_mem_set hx with z | z
    ·exact V.mg x z
    ·rw [z];exact hb
 have b4:=V.m5
 cases ha:r.hs[i]? with
 | none=>unfold j7 at e;rw [ha] at e;cases e
 | some h=>
  obtain ⟨t,w⟩:=h
  cases hb:r.bx[i9 t]? with
  | none=>unfold j7 at e;rw [ha] at e;simp only at e;rw [hb] at e;cases e
  | some b=>
   obtain ⟨mk,cl⟩:=b
   have hm:∀ g,mk=some g->g<many:=V.mg (mk,cl) (List.mem_of_getElem? hb)
   rw [a51 ha hb] at e
   cases w with
   | out=>exact put (n:=i9 t) (b:=(some i,cl)) (t:=t) (w:=.ask) e λg z=>by cases z;omega
   | ask=>
    cases cl with
    | true=>exact put (n:=i9 t) (b:=(mk,true)) (t:=t++[false]) (w:=.out) e hm
    | false=>exact put (n:=i9 t) (b:=(mk,false)) (t:=t) (w:=.close) e hm
   | close=>exact put (n:=i9 t) (b:=(mk,true)) (t:=t) (w:=.look) e hm
   | look=>
    by_cases q:mk=some i
    ·exact put (n:=i9 t) (b:=(mk,cl)) (t:=t) (w:=.holds) ((if_pos q).symm.trans e) hm
    ·exact put (n:=i9 t) (b:=(mk,cl)) (t:=t++[true]) (w:=.out) ((if_neg q).symm.trans e) hm
   | holds=>cases e
end
end L3.K15
end
section
set_option maxHeartbeats 1000000
namespace L3
open PySem PySem.Spec PyProof.Rows L2
theorem c0r (x:Int) (ns:List Int) (S:Sto):b8 .In (.int x) (.lst (ns.map D.int)) S=.ok (.bl (decide (x∈ns))) S:=by
 have e:m3 64 S (.lst (ns.map D.int))=some (.list (ns.map PyData.int)):=by
  show (k9 (m3 63 S) (ns.map D.int)).map PyData.list=_
  rw [a30 62 S ns];rfl
 show inD false (.int x) (.lst (ns.map D.int)) S=_
 unfold inD
 rw [e]
 show b08 false (.int x) (ns.map PyData.int) S=_
 unfold b08
 have hd:PyData.depth (.int x)=0:=by simp [PyData.depth]
 rw [if_pos ⟨rfl,a7s ns,by rw [hd];omega⟩,b2v]
 rfl
end L3
namespace L3.K15
open PySem PySem.Spec PyProof.Rows L2 L3.Nt
noncomputable def N0 (size many:Nat):Nst:=⟨List.replicate (tri size) (none,false),List.replicate many ([],.out)⟩
theorem N0.ok {size many:Nat} (h0:0<size) (h5:size<=5) (m5:many<=5):VN size many (N0 size many):=by
 refine ⟨h5,m5,List.length_replicate ..,List.length_replicate ..,λh hh=>?_,λb hb g hg=>?_⟩
 ·have hh:h∈List.replicate many (([],.out):Hnd):=hh
  rw [(List.mem_replicate.mp hh).2];exact h0
 ·have hb:b∈List.replicate (tri size) ((none,false):Box):=hb
  rw [(List.mem_replicate.mp hb).2] at hg;cases hg
theorem a8z {size:Nat} {c:Nat×Nat} (h:c.1+c.2<size):E2 c<tri size:=by
 have:=a7r h
 unfold E2;omega
theorem N0.good {size many:Nat}:GoodN size (N0 size many):=by
 intro c hc
 have w:w7c c ([],.out)=.out:=by
  unfold w7c
  rw [if_neg (λz=>absurd z.1 (by simp))]
  exact ite_self _
 have ws:∀ x∈(N0 size many).hs.map (w7c c),x=.out:=λx hx=>by
  obtain ⟨h,hh,rfl⟩:=List.mem_map.mp hx
  have hh:h∈List.replicate many (([],.out):Hnd):=hh
  rw [(List.mem_replicate.mp hh).2];exact w
 refine ⟨(none,false),?_,λ_ x hx=>(by rw [ws x hx];rfl),λz=>(by cases z),λ_=>ws,λg z=>(by cases z),λg z=>(by cases z),?_⟩
 ·show (List.replicate (tri size) ((none,false):Box))[E2 c]?=_
  rw [List.getElem?_replicate,if_pos (a8z hc)]
 ·rw [List.countP_eq_zero.mpr λx hx=>by rw [ws x hx];decide];omega
theorem c5y {size many:Nat} (h5:size<=5) (h0:0<size) (m0:0<many) (m5:many<=5) (k:Nat) (S:Sto):rn (k+2) c28 [.int (size:Int),.int (many:Int)] S=.ok (N0 size many).d S:=by
 refine d9 ?_
 rw [rn,c7 (fd:=b5i) rfl,b64]
 have l0:j8 (.lst ((v3 size).map cD)) S=.ok (.int (tri size:Int)) S:=by
  show R.ok (D.int (((v3 size).map cD).length:Int)) S=_
  rw [List.length_map,U3 h5]
 refine Ok.eq (a5j h5 h0 k S)<|Ok.eq l0 ?_
 have a:size=1\/size=2\/size=3\/size=4\/size=5:=by omega
 have b:many=1\/many=2\/many=3\/many=4\/many=5:=by omega
 have e1:C7 (.tup [(.tup [.non,(.bl false)])]) (.int (tri size:Int)) S=.ok (.tup ((List.replicate (tri size) ((none,false):Box)).map bxD)) S:=by
  rcases a with rfl | rfl | rfl | rfl | rfl <;> kernel_rfl
 have e2:C7 (.tup [(.tup [(.tup []),(.str "out")])]) (.int (many:Int)) S=.ok (.tup ((List.replicate many (([],.out):Hnd)).map hdD)) S:=by
  rcases b with rfl | rfl | rfl | rfl | rfl <;> kernel_rfl
 exact Ok.eq e1 (Ok.eq e2 (Ok.ret ⟨rfl,rfl⟩))
theorem v6 {ns:List Int} {p N m:Nat} {S:Sto} (h:Fw ns p (N+1) S) (hm:0<m) (hm2:m<1073741824) (k:Nat):Ok (rn (k+1) c3f [.ref p,.int (m:Int)]) S λd S'=>∃ r:Nat,d=.int (r:Int)/\r<m/\Fw ns p N S'/\S'.length=S.length/\∀ q,q≠p->S'[q]?=S[q]?:=by
 rw [rn,c7 (fd:=b3v) rfl,b72]
 exact b5m h hm hm2
theorem a6h {ns:List Int} {p N size many:Nat} {S:Sto} (F:Fw ns p (N+60) S) (h0:0<size) (h5:size<=5) (m0:0<many) (m5:many<=5) (k:Nat):Ok (rn (k+4) c20 [.ref p,.int (size:Int),.int (many:Int)]) S λd S'=>Fw ns p N S'/\∃ r,d=Nst.d r/\VN size many r/\GoodN size r:=by
 rw [rn,c7 (fd:=z17_F) rfl,b8z,b8t]
 refine Ok.first<|Ok.cg (c76 ..)<|Ok.eq (c5y h5 h0 m0 m5 (k+1) S)<|Ok.nxt<|Ok.cg (c6i ..)<|nx_bind<|Ok.eq (v9 (by omega) _) ((Ok.comp (n:=many) (λj S' es=>Fw ns p (N+42+(many-j)) S'/\∃ v:List Int,es=v.map D.int/\v.length<=j) (λS' es _=>u4 many S') ?_ ⟨F.less (by omega),[],rfl,Nat.le_refl _⟩).mono ?_)
 ·rintro j S' es hj ⟨Fj,v,rfl,hv⟩
  refine ⟨.int (j:Int),A0 hj S',Ok.bind ((v6 (N:=N+42+(many-(j+1))) (m:=5) (Fj.less (by omega)) (by omega) (by omega) (k+2)).mono ?_)⟩
  rintro _ S1 ⟨r,rfl,_,F1,_,_⟩
  refine Ok.eq (O2 _ _ _)<|Ok.eq (i6 _ _)<|Ok.ret ?_
  split
  ·exact Ok.ret ⟨by rw [List.length_map,sizeLine_eq];omega,F1,v++[(j:Int)],by rw [List.map_append];rfl,by simp;omega⟩
  ·exact ⟨F1,v,rfl,by omega⟩
 rintro _ S1 ⟨F1,v,rfl,_⟩
 have m8:C7 (.int 8) (.int (many:Int)) S1=.ok (.int ((8 * many:Nat):Int)) S1:=by
  have b:many=1\/many=2\/many=3\/many=4\/many=5:=by omega
  rcases b with rfl | rfl | rfl | rfl | rfl <;> kernel_rfl
 refine Ok.nxt<|Ok.cg (c9f ..)<|Ok.eq m8<|Ok.bind ((v6 (N:=N+41) (m:=8 * many) (F1.less (by omega)) (by omega) (by omega) (k+2)).mono ?_)
 rintro _ S2 ⟨n,rfl,hn,F2,_,_⟩
 refine Ok.eq (v9 (by omega) _)<|Ok.bind ((Ok.loop (n:=n) (λi ρ S'=>Fw ns p (N+(n-i)) S'/\∃ (r:Nst) (o5 o7 o8:Option D),VN size many r/\GoodN size r/\ρ=[some (.ref p),some (.int (size:Int)),some (.int (many:Int)),some r.d,o5,some (.lst (v.map D.int)),o7,o8]) (λρ S' _=>u4 n S') ?_ ⟨F2.less (by omega),_,_,_,_,N0.ok h0 h5 m5,N0.good,rfl⟩).mono ?_)
 ·rintro i ρ S3 hi ⟨F3,r,o5,o7,o8,V,G,rfl⟩
  refine ⟨.int (i:Int),_,A0 hi S3,rfl,?_⟩
  unfold a4n
  rw [a4x]
  refine Ok.first<|Ok.cg (b0k ..)<|Ok.bind ((v6 (N:=N+(n-(i+1))) (F3.less (by omega)) m0 (by omega) (k+2)).mono ?_)
  rintro _ S4 ⟨h,rfl,hh,F4,_,_⟩
  have last:∀ (o:Option Nst) (S':Sto),Fw ns p (N+(n-(i+1))) S'->(∀ r',o=some r'->VN size many r'/\GoodN size r')->Ok (nxt (evK Rs Γ (rn (k+3)) 39) O5 [nth B2 2] ret (.nx [some (.ref p),some (.int (size:Int)),some (.int (many:Int)),some r.d,some (.int (h:Int)),some (.lst (v.map D.int)),some (.int (i:Int)),some (gD o)])) S' λfl S'=>∃ ρ',(fl=.nx ρ'\/fl=.ct ρ')/\Fw ns p (N+(n-(i+1))) S'/\∃ (r:Nst) (o5 o7 o8:Option D),VN size many r/\GoodN size r/\ρ'=[some (.ref p),some (.int (size:Int)),some (.int (many:Int)),some r.d,o5,some (.lst (v.map D.int)),o7,o8]:=by
   intro o S' F' ho
   cases o with
   | none=>exact Ok.nxt<|Ok.cg (a11 ..)<|Ok.eq (a:=.bl true) rfl<|Ok.eq rfl<|Ok.pos rfl<|Ok.ret ⟨_,.inl rfl,F',r,_,_,_,V,G,rfl⟩
   | some r'=>exact Ok.nxt<|Ok.cg (a11 ..)<|Ok.eq (a:=.bl false) rfl<|Ok.eq rfl<|Ok.neg (by decide)<|Ok.ret ⟨_,.inl rfl,F',r',_,_,_,(ho r' rfl).1,(ho r' rfl).2,rfl⟩
  have call:∀ {α:Type} (κ:D->M α) (Q:α->Sto->Prop),(∀ S',Fw ns p (N+(n-(i+1))) S'->Ok (κ (gD (j7 size r h))) S' Q)->Ok (bind (rn (k+3) c1a [.int (size:Int),r.d,.int (h:Int)]) κ) S4 Q:=by
   intro α κ Q hq
   refine Ok.bind ((c2a V hh (k+1) S4).mono ?_)
   rintro _ S5 ⟨rfl,R,rfl⟩
   exact hq _ (F4.keep (by rw [List.getElem?_append_left F4.lt]))
  have hst:∀ r',j7 size r h=some r'->VN size many r'/\GoodN size r':=λr' e=>⟨VN.step V hh e,GoodN.step V G e⟩
  refine Ok.nxt<|Ok.cg (b1j ..)<|Ok.eq (c0r _ _ _)<|Ok.eq (i6 _ _)<|Ok.ite (λ_=>Ok.eq (a88 _ _ _)<|Ok.eq (i6 _ _)<|Ok.ite (λ_=>?_) λ_=>?_) λ_=>?_
  ·exact last none S4 F4 (λ_ z=>by cases z)
  ·exact call _ _ λS' F'=>last _ S' F' hst
  ·exact call _ _ λS' F'=>last _ S' F' hst
 ·rintro _ S3 ⟨ρ,rfl,F3,r,o5,o7,o8,V,G,rfl⟩
  exact Ok.nxt<|Ok.cg (d0f ..)<|Ok.ret ⟨F3.less (by omega),r,rfl,V,G⟩
end L3.K15
end

section
set_option maxHeartbeats 1000000
namespace L3.K15
open PySem PySem.Spec PyProof.Rows L2 L3.Nt
theorem a0h {size:Nat} (h:size<=5):tri size<=15:=by
 have a:size=0\/size=1\/size=2\/size=3\/size=4\/size=5:=by omega
 rcases a with rfl | rfl | rfl | rfl | rfl | rfl <;> decide
theorem b70 {size:Nat} (h0:0<size) (h:size<=5):0<tri size:=by
 have a:size=1\/size=2\/size=3\/size=4\/size=5:=by omega
 rcases a with rfl | rfl | rfl | rfl | rfl <;> decide
theorem b2q {many q:Nat} (hq:q<many+1) (m5:many<=5) (S:Sto):∃ ds:List D,(∀ S',bind (Q2 (.int (many:Int))) (λx3=>f9 (.lst [.non]) x3) S'=.ok (.lst ds) S')/\∃ o:Option Nat,ds[q]?=some (oD o)/\∀ g,o=some g->g<many:=by
 have b:many=0\/many=1\/many=2\/many=3\/many=4\/many=5:=by omega
 refine ⟨(D.non :: (rgL many).map D.int),λS'=>?_,?_⟩
 ·rcases b with rfl | rfl | rfl | rfl | rfl | rfl <;> kernel_rfl
 ·cases q with
  | zero=>exact ⟨none,rfl,λg z=>by cases z⟩
  | succ q=>
   refine ⟨some q,?_,λg z=>by cases z;omega⟩
   have c:q=0\/q=1\/q=2\/q=3\/q=4:=by omega
   rcases b with rfl | rfl | rfl | rfl | rfl | rfl <;> rcases c with rfl | rfl | rfl | rfl | rfl <;> first | rfl | omega
theorem c0c {q:Nat} (hq:q<5):∃ w:Wd,([.str "out",.str "ask",.str "close",.str "look",.str "holds"]:List D)[q]?=some w.d:=by
 have:q=0\/q=1\/q=2\/q=3\/q=4:=by omega
 rcases this with rfl | rfl | rfl | rfl | rfl
 ·exact ⟨.out,rfl⟩
 ·exact ⟨.ask,rfl⟩
 ·exact ⟨.close,rfl⟩
 ·exact ⟨.look,rfl⟩
 ·exact ⟨.holds,rfl⟩
theorem c57 {q:Nat} (hq:q<2):∃ b:Bool,([.str "right",.str "down"]:List D)[q]?=some (j4 b):=by
 have:q=0\/q=1:=by omega
 rcases this with rfl | rfl
 ·exact ⟨false,rfl⟩
 ·exact ⟨true,rfl⟩
theorem V4 {α β γ:Type} (m:M α) (f:α->M β) (g:β->M γ):(bind m λx=>bind (f x) g)=bind (bind m f) g:=(a8 ..).symm
theorem b1g {ns:List Int} {p N size many:Nat} {S:Sto} (F:Fw ns p (N+12) S) {r:Nst} (V:VN size many r) (h0:0<size) (m0:0<many) (k:Nat):Ok (rn (k+2) c52 [.ref p,.int (size:Int),r.d]) S λd S'=>Fw ns p N S'/\∃ r',d=Nst.d r'/\VN size many r':=by
 have b1:=V.bl
 have b2:=V.hl
 have h5:=V.s5
 have m5:=V.m5
 have b5:=a0h h5
 have b6:=b70 h0 h5
 have sz:(1000:Nat)<=sizeLine:=by decide
 have lb:(r.bx.map bxD).length=tri size:=by rw [List.length_map,b1]
 have lh:(r.hs.map hdD).length=many:=by rw [List.length_map,b2]
 have l0:∀ S:Sto,j8 (.tup (r.hs.map hdD)) S=.ok (.int (many:Int)) S:=λS=>(u6 _ S).trans (by rw [lh])
 have l1:∀ S:Sto,j8 (.tup (r.bx.map bxD)) S=.ok (.int (tri size:Int)) S:=λS=>(u6 _ S).trans (by rw [lb])
 rw [rn,c7 (fd:=z32_F) rfl,b86,b7h]
 refine Ok.first<|Ok.cg (c82 ..)<|Ok.eq (a:=.nx [some (.ref p),some (.int (size:Int)),some r.d,some (.tup (r.bx.map bxD)),some (.tup (r.hs.map hdD)),none,none,none,none,none,none,none,none]) rfl<|Ok.nxt<|Ok.cg (c7x ..)<|Ok.eq (l0 S)<|Ok.nxt<|Ok.cg (c60 ..)<|Ok.bind ((v6 (N:=N+11) (m:=4) (F.less (by omega)) (by omega) (by omega) k).mono ?_)
 rintro _ S1 ⟨way,rfl,hw,F1,_,_⟩
 refine Ok.nxt<|Ok.cg (c6r ..)<|Ok.eq (l1 S1)<|Ok.bind ((v6 (N:=N+10) (m:=tri size) (F1.less (by omega)) (by omega) (by omega) k).mono ?_)
 rintro _ S2 ⟨n,rfl,hn,F2,_,_⟩
 have hb:r.bx[n]?=some r.bx[n]:=List.getElem?_eq_getElem (by omega)
 have hbm:=V.mg r.bx[n] (List.getElem_mem (by omega))
 generalize r.bx[n]=b at hb hbm
 obtain ⟨mk,cl⟩:=b
 refine Ok.nxt<|Ok.cg (c98 ..)<|Ok.eq (a74 _ _ _)<|Ok.eq (i6 _ _)<|Ok.ite (λ_=>?_) λ_=>?_
 ·
  refine Ok.cg (V4 ..) ?_
  have put:∀ (m:Option Nat) (c:Bool) (S':Sto),Fw ns p N S'->(∀ g,m=some g->g<many)->Fw ns p N S'/\∃ r',D.tup [.tup ((r.bx.map bxD).set n (bxD (m,c))),.tup (r.hs.map hdD)]=Nst.d r'/\VN size many r':=by
   intro m c S' F' hm
   refine ⟨F',⟨r.bx.set n (m,c),r.hs⟩,?_,h5,m5,by simp [b1],b2,V.tr,λx hx=>?_⟩
   ·show _=D.tup [.tup ((r.bx.set n (m,c)).map bxD),.tup (r.hs.map hdD)]
    rw [List.map_set]
   ·rcases List.mem_or_eq_of_mem_set hx with z | z
    ·exact V.mg x z
    ·rw [z];exact hm
  have dr:=v6 (N:=N+9) (m:=many+1) (F2.less (by omega)) (by omega) (by omega) k
  obtain ⟨d,S3,ed,q,rfl,hq,F3,_,_⟩:=dr
  obtain ⟨ds,ea,o,eo,ho⟩:=b2q hq m5 S2
  refine Ok.eq (ea S2)<|Ok.eq (D9 many 1 S2)<|Ok.eq ed<|Ok.eq (b3l S3 eo)<|Ok.eq (k7 S3 (i8 hb))<|Ok.eq (a:=.bl cl) rfl<|Ok.eq (O2 _ _ _)<|Ok.eq (i6 _ _)<|Ok.ite (λ_=>?_) λ_=>?_
  ·refine Ok.eq (k7 S3 (i8 hb))<|Ok.eq (a:=oD mk) rfl<|Ok.eq (k7 S3 (i8 hb))<|Ok.eq (a:=.bl cl) rfl<|Ok.eq (a:=cl) rfl<|Ok.eq (a:=some (n:Int)) rfl<|Ok.eq (R6 (by omega) S3)<|Ok.eq (a:=bxD (mk,!cl)) rfl<|Ok.eq (cat_tup (by simp;omega))<|Ok.eq (a:=.int ((n:Int)+1)) rfl<|Ok.eq (a:=some ((n:Int)+1)) rfl<|Ok.eq (P5 (by omega) S3)<|Ok.eq (cat_tup (by simp;omega)) ?_
   rw [Q8 (by omega)]
   exact Ok.ret (put mk (!cl) S3 (F3.less (by omega)) hbm)
  ·refine Ok.eq (a:=some (n:Int)) rfl<|Ok.eq (R6 (by omega) S3)<|Ok.eq (a:=bxD (o,cl)) rfl<|Ok.eq (cat_tup (by simp;omega))<|Ok.eq (a:=.int ((n:Int)+1)) rfl<|Ok.eq (a:=some ((n:Int)+1)) rfl<|Ok.eq (P5 (by omega) S3)<|Ok.eq (cat_tup (by simp;omega)) ?_
   rw [Q8 (by omega)]
   exact Ok.ret (put o cl S3 (F3.less (by omega)) ho)
 ·
  refine Ok.nxt<|Ok.cg (c7n ..)<|Ok.bind ((v6 (N:=N+9) (F2.less (by omega)) m0 (by omega) k).mono ?_)
  rintro _ S3 ⟨h,rfl,hh,F3,_,_⟩
  have ha:r.hs[h]?=some r.hs[h]:=List.getElem?_eq_getElem (by omega)
  have htr:=V.tr r.hs[h] (List.getElem_mem (by omega))
  generalize r.hs[h]=x at ha htr
  obtain ⟨t,w⟩:=x
  have htr:t.length<size:=htr
  refine Ok.nxt<|Ok.cg (c7y ..)<|Ok.eq (k7 S3 (i8 ha))<|Ok.eq (a:=.nx [some (.ref p),some (.int (size:Int)),some r.d,some (.tup (r.bx.map bxD)),some (.tup (r.hs.map hdD)),some (.int (many:Int)),some (.int (way:Int)),some (.int (n:Int)),none,some (.int (h:Int)),some (trD t),some w.d,none]) rfl<|Ok.nxt<|Ok.cg (c7h ..)<|Ok.bind ((v6 (N:=N+8) (m:=5) (F3.less (by omega)) (by omega) (by omega) k).mono ?_)
  rintro _ S4 ⟨q,rfl,hq,F4,_,_⟩
  obtain ⟨w',ew⟩:=c0c hq
  refine Ok.eq (b3l S4 ew) ?_
  have last:∀ (t':List Bool) (o:Option D) (S':Sto),t'.length<size->Fw ns p N S'->Ok (nxt (evK Rs Γ (rn (k+1)) 40) G2 [nth z32_F.body 9] endD (.nx [some (.ref p),some (.int (size:Int)),some r.d,some (.tup (r.bx.map bxD)),some (.tup (r.hs.map hdD)),some (.int (many:Int)),some (.int (way:Int)),some (.int (n:Int)),none,some (.int (h:Int)),some (trD t'),some w'.d,o])) S' λd S'=>Fw ns p N S'/\∃ r',d=Nst.d r'/\VN size many r':=by
   intro t' o S' ht F'
   refine Ok.nxt<|Ok.cg (c6s ..)<|Ok.eq (a:=some (h:Int)) rfl<|Ok.eq (R6 (by omega) S')<|Ok.eq (cat_tup (by simp;omega))<|Ok.eq (a:=.int ((h:Int)+1)) rfl<|Ok.eq (a:=some ((h:Int)+1)) rfl<|Ok.eq (P5 (by omega) S')<|Ok.eq (cat_tup (by simp;omega)) ?_
   rw [Q8 (by omega)]
   refine Ok.ret ⟨F',⟨r.bx,r.hs.set h (t',w')⟩,?_,h5,m5,b1,by simp [b2],λx hx=>?_,V.mg⟩
   ·show D.tup [.tup (r.bx.map bxD),.tup ((r.hs.map hdD).set h (hdD (t',w')))]=D.tup [.tup (r.bx.map bxD),.tup ((r.hs.set h (t',w')).map hdD)]
    rw [List.map_set]
   ·rcases List.mem_or_eq_of_mem_set hx with z | z
    ·exact V.tr x z
    ·rw [z];exact ht
  refine Ok.nxt<|Ok.cg (d0n ..)<|Ok.eq (O2 _ _ _)<|Ok.eq (i6 _ _)<|Ok.ite (λ_=>?_) λ_=>?_
  ·refine nx_bind<|Ok.bind ((v6 (N:=N+7) (m:=size) (F4.less (by omega)) h0 (by omega) k).mono ?_)
   rintro _ S5 ⟨l,rfl,hl,F5,_,_⟩
   refine Ok.eq (v9 (by omega) _) ((Ok.comp (n:=l) (λj S' es=>Fw ns p (N+(l-j)) S'/\∃ v:List Bool,es=v.map j4/\v.length=j) (λS' es _=>u4 l S') ?_ ⟨F5.less (by omega),[],rfl,rfl⟩).mono ?_)
   ·rintro j S' es hj ⟨Fj,v,rfl,hv⟩
    refine ⟨.int (j:Int),A0 hj S',Ok.ret ?_⟩
    rw [if_pos rfl]
    refine Ok.bind ((v6 (N:=N+(l-(j+1))) (m:=2) (Fj.less (by omega)) (by omega) (by omega) k).mono ?_)
    rintro _ S6 ⟨q,rfl,hq,F6,_,_⟩
    obtain ⟨b,eb⟩:=c57 hq
    exact Ok.eq (b3l S6 eb)<|Ok.ret ⟨by rw [List.length_map,sizeLine_eq];omega,F6,v++[b],by rw [List.map_append];rfl,by simp;omega⟩
   ·rintro _ S6 ⟨F6,v,rfl,hv⟩
    exact Ok.eq (a:=trD v) rfl (last v _ S6 (by omega) (F6.less (by omega)))
  ·exact last t _ S4 htr (F4.less (by omega))
theorem a3q {ds:List D} {i:Nat} (x:D) (h:i<ds.length) (hl:ds.length<=1000) (k:Nat) (S:Sto):rn (k+1) c4f [.tup ds,.int (i:Int),x] S=.ok (.tup (ds.set i x)) S:=by
 rw [rn,c7 (fd:=b37) rfl,b8a]
 exact d9 (a39 h hl)
noncomputable def exS (i:Nat):O:=.exc 1 [("hand",.int (i:Int))]
theorem b1o {mk:Option Nat} {cl:Bool} {i:Nat} {w:Wd} {ws:List D} (hw:ws[i]?=some w.d) (hl:ws.length<=6) (hn:w≠.holds) (k:Nat) (S:Sto):rn (k+2) a6f [.tup [oD mk,.bl cl,.tup ws],.int (i:Int)] S=.ok (bhD mk cl i w ws) S:=by
 have hi:i<ws.length:=(List.getElem?_eq_some_iff.mp hw).1
 have wa:=λ(x:D)=>a3q (ds:=ws) x hi (by omega) k S
 refine d9 ?_
 rw [rn,c7 (fd:=z2_F) rfl,b3i,b2s]
 refine Ok.first<|Ok.cg (d0a ..)<|Ok.eq (a:=.nx [some (.tup [oD mk,.bl cl,.tup ws]),some (.int (i:Int)),some (oD mk),some (.bl cl),some (.tup ws),none]) rfl<|Ok.nxt<|Ok.cg (c8f ..)<|Ok.eq (k7 S hw)<|Ok.nxt<|Ok.cg (c9h ..) ?_
 cases w with
 | holds=>exact (hn rfl).elim
 | out=>exact Ok.eq (S1:=S) (a:=.bl false) (by kernel_rfl)<|Ok.eq rfl<|Ok.neg (by decide)<|Ok.nxt<|Ok.cg (b98 ..)<|Ok.eq (a:=.bl true) rfl<|Ok.eq rfl<|Ok.pos rfl<|Ok.eq (wa _)<|Ok.ret ⟨rfl,rfl⟩
 | ask=>
  refine Ok.eq (S1:=S) (a:=.bl false) (by kernel_rfl)<|Ok.eq rfl<|Ok.neg (by decide)<|Ok.nxt<|Ok.cg (b98 ..)<|Ok.eq (a:=.bl false) rfl<|Ok.eq rfl<|Ok.neg (by decide)<|Ok.nxt<|Ok.cg (c4n ..)<|Ok.eq (a:=.bl true) rfl<|Ok.eq rfl<|Ok.pos rfl<|Ok.eq (a:=cl) rfl ?_
  cases cl with
  | true=>exact Ok.pos rfl<|Ok.eq (wa _)<|Ok.ret ⟨rfl,rfl⟩
  | false=>exact Ok.neg (by decide)<|Ok.eq (wa _)<|Ok.ret ⟨rfl,rfl⟩
 | close=>exact Ok.eq (S1:=S) (a:=.bl false) (by kernel_rfl)<|Ok.eq rfl<|Ok.neg (by decide)<|Ok.nxt<|Ok.cg (b98 ..)<|Ok.eq (a:=.bl false) rfl<|Ok.eq rfl<|Ok.neg (by decide)<|Ok.nxt<|Ok.cg (c4n ..)<|Ok.eq (a:=.bl false) rfl<|Ok.eq rfl<|Ok.neg (by decide)<|Ok.nxt<|Ok.cg (d0l ..)<|Ok.eq (a:=.bl true) rfl<|Ok.eq rfl<|Ok.pos rfl<|Ok.eq (wa _)<|Ok.ret ⟨rfl,rfl⟩
 | look=>
  have em:b8 .Eq (oD mk) (.int (i:Int)) S=.ok (.bl (decide (mk=some i))) S:=by
   cases mk with
   | none=>exact (show b8 .Eq .non (.int (i:Int)) S=.ok (.bl false) S from rfl).trans (by simp)
   | some g=>
    refine (O2 _ _ S).trans ?_
    rw [show decide ((g:Int)=(i:Int))=decide (some g=some i) by simp;omega]
  refine Ok.eq (S1:=S) (a:=.bl false) (by kernel_rfl)<|Ok.eq rfl<|Ok.neg (by decide)<|Ok.nxt<|Ok.cg (b98 ..)<|Ok.eq (a:=.bl false) rfl<|Ok.eq rfl<|Ok.neg (by decide)<|Ok.nxt<|Ok.cg (c4n ..)<|Ok.eq (a:=.bl false) rfl<|Ok.eq rfl<|Ok.neg (by decide)<|Ok.nxt<|Ok.cg (d0l ..)<|Ok.eq (a:=.bl false) rfl<|Ok.eq rfl<|Ok.neg (by decide)<|Ok.nxt<|Ok.cg (d1a ..)<|Ok.eq em<|Ok.eq (i6 _ _) ?_
  by_cases q:mk=some i
  ·exact Ok.pos (decide_eq_true q)<|Ok.eq (wa _)<|Ok.ret ⟨by unfold bhD;rw [a8w q],rfl⟩
  ·exact Ok.neg (by rw [decide_eq_false q];decide)<|Ok.eq (wa _)<|Ok.ret ⟨by unfold bhD;rw [a4r q],rfl⟩
theorem c3r {mk:Option Nat} {cl:Bool} {i:Nat} {ws:List D} (hw:ws[i]?=some Wd.holds.d) (hi:i<100) (k:Nat) (S:Sto):Xn (rn (k+2) a6f [.tup [oD mk,.bl cl,.tup ws],.int (i:Int)]) S λn S'=>n=S.length/\S'=S++[exS i]:=by
 rw [rn,c7 (fd:=z2_F) rfl,b3i,b2s]
 exact Xn.first<|Xn.cg (d0a ..)<|Xn.eq (a:=.nx [some (.tup [oD mk,.bl cl,.tup ws]),some (.int (i:Int)),some (oD mk),some (.bl cl),some (.tup ws),none]) rfl<|Xn.nxt<|Xn.cg (c8f ..)<|Xn.eq (k7 S hw)<|Xn.nxt<|Xn.cg (c9h ..)<|Xn.eq (S1:=S) (a:=.bl true) (by kernel_rfl)<|Xn.eq rfl<|Xn.pos rfl<|raise_k rfl (d0q (b4t ⟨by omega,by omega⟩))
theorem c0f {t:List Bool} (w:Wd) (k:Nat) (S:Sto):rn (k+1) a8o [trD t,w.d] S=.ok (hdD (t,w)) S:=by
 refine d9 ?_
 rw [rn,c7 (fd:=b7r) rfl,b5k]
 exact Ok.eq (S1:=S) (a:=.bl false) (by cases w <;> kernel_rfl)<|Ok.eq rfl<|Ok.neg (by decide)<|Ok.ret ⟨rfl,rfl⟩
theorem a4t {t:List Bool} (b:Bool) (ht:t.length<=5) (k:Nat) (S:Sto):rn (k+1) a8o [trD t,j4 b] S=.ok (hdD (t++[b],.out)) S:=by
 refine d9 ?_
 have sz:(1000:Nat)<=sizeLine:=by decide
 have et:f9 (trD t) (.tup [j4 b]) S=.ok (trD (t++[b])) S:=by
  rw [trD,cat_tup (by simp;omega)]
  show R.ok (D.tup (t.map j4++[j4 b])) S=.ok (.tup ((t++[b]).map j4)) S
  rw [List.map_append];rfl
 rw [rn,c7 (fd:=b7r) rfl,b5k]
 exact Ok.eq (S1:=S) (a:=.bl true) (by cases b <;> kernel_rfl)<|Ok.eq rfl<|Ok.pos rfl<|Ok.eq et<|Ok.ret ⟨rfl,rfl⟩
theorem b3w (h:Hnd):j0 (pN h.1 (i9 h.1)) h=h.2.d:=by
 have p:∀ j,pN h.1 (i9 h.1) j=decide (tri (h.1.take j).length+dn (h.1.take j)=tri h.1.length+dn h.1):=λj=>by
  unfold pN i9;rw [O6]
 have mono:∀ a b:Nat,a<b->tri a+a<tri b:=by
  intro a b hab
  have e:∀ n,tri (n+1)=tri n+(n+1):=by
   intro n;unfold tri
   have:(n+1) * (n+1+1)=n * (n+1)+(n+1) * 2:=by
    rw [Nat.mul_add (n+1) (n+1) 1,Nat.add_mul n 1 (n+1)];omega
   rw [this,Nat.add_mul_div_right _ _ (by omega)]
  induction hab with
  | refl=>rw [e];omega
  | step _ ih=>rw [e];omega
 have dl:∀ t:List Bool,dn t<=t.length:=λt=>by have:=O6 t;omega
 unfold j0
 rw [A6 λj hj=>?_]
 ·simp only
  rw [if_pos]
  rw [p,List.take_length];exact decide_eq_true rfl
 ·rw [p]
  have l:(h.1.take j).length=j:=by rw [List.length_take];omega
  have:=mono j h.1.length hj
  have:=dl (h.1.take j)
  rw [l] at *
  exact decide_eq_false (by omega)
section
variable {size:Nat} {r:Nst} {i n:Nat} {t:List Bool} {w:Wd} {k:Nat} {S:Sto} {x0:D}
theorem b5j {m:Option Nat} {c:Bool} {ws:List D} {Q:D->Sto->Prop} (ha:r.hs[i]?=some (t,w)) (en:rn (k+4) a3z [.tup [.int (dn t:Int),.int (rt t:Int)]] S=.ok (.int (n:Int)) S) (el:rn (k+4) a2z [.int (size:Int),r.d,.int (n:Int)] S=.ok x0 S) (ed:rn (k+4) a6f [x0,.int (i:Int)] S=.ok (.tup [oD m,.bl c,.tup ws]) S)
  (h:Ok (nxt (evK Rs Γ (rn (k+4)) 40) G5 [nth z20_F.body 4,nth z20_F.body 5,nth z20_F.body 6] endD (.nx [some (.int (size:Int)),some r.d,some (.int (i:Int)),some (.tup (r.bx.map bxD)),some (.tup (r.hs.map hdD)),some (trD t),some (.int (n:Int)),some (oD m),some (.bl c),some (.tup ws),none])) S Q):Ok (rn (k+5) C2 [.int (size:Int),r.d,.int (i:Int)]) S Q:=by
 rw [rn,c7 (fd:=z20_F) rfl,a26,a3f]
 exact Ok.first<|Ok.cg (b4k ..)<|Ok.eq (a:=.nx [some (.int (size:Int)),some r.d,some (.int (i:Int)),some (.tup (r.bx.map bxD)),some (.tup (r.hs.map hdD)),none,none,none,none,none,none]) rfl<|Ok.nxt<|Ok.cg (b39 ..)<|Ok.eq (k7 S (i8 ha))<|Ok.eq (a:=trD t) rfl<|Ok.nxt<|Ok.cg (b2w ..)<|Ok.eq (V9 t (k+3) S)<|Ok.eq en<|Ok.nxt<|Ok.cg (b15 ..)<|Ok.eq el<|Ok.eq ed<|Ok.eq (a:=.nx [some (.int (size:Int)),some r.d,some (.int (i:Int)),some (.tup (r.bx.map bxD)),some (.tup (r.hs.map hdD)),some (trD t),some (.int (n:Int)),some (oD m),some (.bl c),some (.tup ws),none]) rfl h
theorem c2s {m:Option Nat} {c:Bool} {ws:List D} {Q:Nat->Sto->Prop} (ha:r.hs[i]?=some (t,w)) (en:rn (k+4) a3z [.tup [.int (dn t:Int),.int (rt t:Int)]] S=.ok (.int (n:Int)) S) (el:rn (k+4) a2z [.int (size:Int),r.d,.int (n:Int)] S=.ok x0 S) (ed:rn (k+4) a6f [x0,.int (i:Int)] S=.ok (.tup [oD m,.bl c,.tup ws]) S)
  (h:Xn (nxt (evK Rs Γ (rn (k+4)) 40) G5 [nth z20_F.body 4,nth z20_F.body 5,nth z20_F.body 6] endD (.nx [some (.int (size:Int)),some r.d,some (.int (i:Int)),some (.tup (r.bx.map bxD)),some (.tup (r.hs.map hdD)),some (trD t),some (.int (n:Int)),some (oD m),some (.bl c),some (.tup ws),none])) S Q):Xn (rn (k+5) C2 [.int (size:Int),r.d,.int (i:Int)]) S Q:=by
 rw [rn,c7 (fd:=z20_F) rfl,a26,a3f]
 exact Xn.first<|Xn.cg (b4k ..)<|Xn.eq (a:=.nx [some (.int (size:Int)),some r.d,some (.int (i:Int)),some (.tup (r.bx.map bxD)),some (.tup (r.hs.map hdD)),none,none,none,none,none,none]) rfl<|Xn.nxt<|Xn.cg (b39 ..)<|Xn.eq (k7 S (i8 ha))<|Xn.eq (a:=trD t) rfl<|Xn.nxt<|Xn.cg (b2w ..)<|Xn.eq (V9 t (k+3) S)<|Xn.eq en<|Xn.nxt<|Xn.cg (b15 ..)<|Xn.eq el<|Xn.eq ed<|Xn.eq (a:=.nx [some (.int (size:Int)),some r.d,some (.int (i:Int)),some (.tup (r.bx.map bxD)),some (.tup (r.hs.map hdD)),some (trD t),some (.int (n:Int)),some (oD m),some (.bl c),some (.tup ws),none]) rfl h
theorem c6f {Q:Nat->Sto->Prop} (ha:r.hs[i]?=some (t,w)) (en:rn (k+4) a3z [.tup [.int (dn t:Int),.int (rt t:Int)]] S=.ok (.int (n:Int)) S) (el:rn (k+4) a2z [.int (size:Int),r.d,.int (n:Int)] S=.ok x0 S) (ed:Xn (rn (k+4) a6f [x0,.int (i:Int)]) S Q):Xn (rn (k+5) C2 [.int (size:Int),r.d,.int (i:Int)]) S Q:=by
 rw [rn,c7 (fd:=z20_F) rfl,a26,a3f]
 exact Xn.first<|Xn.cg (b4k ..)<|Xn.eq (a:=.nx [some (.int (size:Int)),some r.d,some (.int (i:Int)),some (.tup (r.bx.map bxD)),some (.tup (r.hs.map hdD)),none,none,none,none,none,none]) rfl<|Xn.nxt<|Xn.cg (b39 ..)<|Xn.eq (k7 S (i8 ha))<|Xn.eq (a:=trD t) rfl<|Xn.nxt<|Xn.cg (b2w ..)<|Xn.eq (V9 t (k+3) S)<|Xn.eq en<|Xn.nxt<|Xn.cg (b15 ..)<|Xn.eq el<|Xn.bind ed
theorem b3j {t':List Bool} {w':Wd} {m:Option Nat} {c:Bool} {ws:List D} {y:D} (wi:ws[i]?=some y) (eh:rn (k+4) a8o [trD t,y] S=.ok (hdD (t',w')) S) (ht:t'.length<size) (hn:n<r.bx.length) (hi:i<r.hs.length) (lb:r.bx.length<=15) (lh:r.hs.length<=6):Ok (nxt (evK Rs Γ (rn (k+4)) 40) G5 [nth z20_F.body 4,nth z20_F.body 5,nth z20_F.body 6] endD (.nx [some (.int (size:Int)),some r.d,some (.int (i:Int)),some (.tup (r.bx.map bxD)),some (.tup (r.hs.map hdD)),some (trD t),some (.int (n:Int)),some (oD m),some (.bl c),some (.tup ws),none])) S λd S'=>d=gD (j3 size r i n (m,c) t' w')/\S'=S:=by
 have lt:j8 (trD t') S=.ok (.int (t'.length:Int)) S:=(u6 _ S).trans (by rw [List.length_map])
 refine Ok.nxt<|Ok.cg (c07 ..)<|Ok.eq (k7 S wi)<|Ok.eq eh<|Ok.nxt<|Ok.cg (c1r ..)<|Ok.eq (a:=trD t') rfl<|Ok.eq lt<|Ok.eq (a49 _ _ _)<|Ok.eq (i6 _ _)<|Ok.neg (by rw [decide_eq_false (by omega)];decide)<|Ok.nxt<|Ok.cg (c9g ..)<|Ok.eq (a3q (.tup [oD m,.bl c]) (by rw [List.length_map];exact hn) (by rw [List.length_map];omega) (k+3) S)<|Ok.eq (a3q (hdD (t',w')) (by rw [List.length_map];exact hi) (by rw [List.length_map];omega) (k+3) S)<|Ok.ret ⟨?_,rfl⟩
 unfold j3
 rw [if_neg (by omega)]
 show D.tup [.tup ((r.bx.map bxD).set n (bxD (m,c))),.tup ((r.hs.map hdD).set i (hdD (t',w')))]=.tup [.tup ((r.bx.set n (m,c)).map bxD),.tup ((r.hs.set i (t',w')).map hdD)]
 rw [List.map_set,List.map_set]
theorem c19 {t':List Bool} {w':Wd} {m:Option Nat} {c:Bool} {ws:List D} {y:D} (wi:ws[i]?=some y) (eh:rn (k+4) a8o [trD t,y] S=.ok (hdD (t',w')) S) (ht:size<=t'.length) (hi:i<100):Xn (nxt (evK Rs Γ (rn (k+4)) 40) G5 [nth z20_F.body 4,nth z20_F.body 5,nth z20_F.body 6] endD (.nx [some (.int (size:Int)),some r.d,some (.int (i:Int)),some (.tup (r.bx.map bxD)),some (.tup (r.hs.map hdD)),some (trD t),some (.int (n:Int)),some (oD m),some (.bl c),some (.tup ws),none])) S λn S'=>n=S.length/\S'=S++[exS i]:=by
 have lt:j8 (trD t') S=.ok (.int (t'.length:Int)) S:=(u6 _ S).trans (by rw [List.length_map])
 exact Xn.nxt<|Xn.cg (c07 ..)<|Xn.eq (k7 S wi)<|Xn.eq eh<|Xn.nxt<|Xn.cg (c1r ..)<|Xn.eq (a:=trD t') rfl<|Xn.eq lt<|Xn.eq (a49 _ _ _)<|Xn.eq (i6 _ _)<|Xn.pos (decide_eq_true (by omega))<|raise_k rfl (d0q (b4t ⟨by omega,by omega⟩))
end
section
variable {size many:Nat} {r:Nst} (V:VN size many r) {i:Nat} (hi:i<many) (k:Nat) (S:Sto)
include V hi
theorem b42:(j7 size r i=none->Xn (rn (k+5) C2 [.int (size:Int),r.d,.int (i:Int)]) S λn S'=>n=S.length/\S'=S++[exS i])/\(j7 size r i≠none->rn (k+5) C2 [.int (size:Int),r.d,.int (i:Int)] S=.ok (gD (j7 size r i)) S):=by
 have b1:=V.bl
 have b2:=V.hl
 have b3:=V.s5
 have b4:=V.m5
 have b5:=a0h b3
 have hi':i<r.hs.length:=by omega
 have ha:r.hs[i]?=some r.hs[i]:=List.getElem?_eq_getElem hi'
 have htr:=V.tr r.hs[i] (List.getElem_mem hi')
 generalize r.hs[i]=h at ha htr
 obtain ⟨t,w⟩:=h
 have htr:t.length<size:=htr
 have hn:i9 t<r.bx.length:=by rw [b1];exact b3o b3 htr
 have hb:r.bx[i9 t]?=some r.bx[i9 t]:=List.getElem?_eq_getElem hn
 generalize r.bx[i9 t]=b at hb
 obtain ⟨mk,cl⟩:=b
 have hst:=a51 (size:=size) ha hb
 have nm:(tri (dn t+rt t)+dn t:Nat)=i9 t:=by unfold i9;rw [O6]
 have el:=d9 (a0i (r:=r) hb (λh hh=>by have:=V.tr h hh;omega) (by omega) (.int (size:Int)) k S)
 obtain ⟨ws,hws⟩:∃ ws,ws=r.hs.map λh=>j0 (pN h.1 (i9 t)) h:=⟨_,rfl⟩
 have hl:U7 r (mk,cl) (λh=>pN h.1 (i9 t))=.tup [oD mk,.bl cl,.tup ws]:=by rw [hws];rfl
 rw [hl] at el
 have wi:ws[i]?=some w.d:=by rw [hws,i8 ha];exact congrArg some (b3w (t,w))
 have wl:ws.length<=6:=by rw [hws,List.length_map];omega
 clear hws hl
 have en:=a7b (dn t) (rt t) (by have:=O6 t;omega) (k+2) S
 rw [nm] at en
 have is:∀ y:D,(ws.set i y)[i]?=some y:=λy=>List.getElem?_set_self (List.getElem?_eq_some_iff.mp wi).1
 have stay:∀ (m:Option Nat) (c:Bool) (w':Wd),bh mk cl i w=some (m,c,w'.s)->j7 size r i=j3 size r i (i9 t) (m,c) t w'->w≠.holds->rn (k+5) C2 [.int (size:Int),r.d,.int (i:Int)] S=.ok (gD (j7 size r i)) S/\j7 size r i≠none:=by
  intro m c w' e1 e2 nh
  have eb:bhD mk cl i w ws=.tup [oD m,.bl c,.tup (ws.set i w'.d)]:=by unfold bhD;rw [e1];rfl
  have ed:=b1o (mk:=mk) (cl:=cl) wi wl nh (k+2) S
  rw [eb] at ed
  refine ⟨?_,?_⟩
  ·rw [e2];exact d9 (b5j ha en el ed (b3j (is _) (c0f w' (k+3) S) htr hn hi' (by omega) (by omega)))
  ·rw [e2];unfold j3;rw [if_neg (by omega)];exact λz=>by cases z
 have leave:∀ (m:Option Nat) (c b:Bool),bh mk cl i w=some (m,c,L6 b)->j7 size r i=j3 size r i (i9 t) (m,c) (t++[b]) .out->w≠.holds->(j7 size r i=none->Xn (rn (k+5) C2 [.int (size:Int),r.d,.int (i:Int)]) S λn S'=>n=S.length/\S'=S++[exS i])/\(j7 size r i≠none->rn (k+5) C2 [.int (size:Int),r.d,.int (i:Int)] S=.ok (gD (j7 size r i)) S):=by
  intro m c b e1 e2 nh
  have eb:bhD mk cl i w ws=.tup [oD m,.bl c,.tup (ws.set i (j4 b))]:=by unfold bhD;rw [e1];rfl
  have ed:=b1o (mk:=mk) (cl:=cl) wi wl nh (k+2) S
  rw [eb] at ed
  rw [e2]
  by_cases q:size<=(t++[b]).length
  ·refine ⟨λ_=>c2s ha en el ed (c19 (is _) (a4t b (by omega) (k+3) S) q (by omega)),λz=>(z ?_).elim⟩
   unfold j3;exact if_pos q
  ·refine ⟨λz=>?_,λ_=>d9 (b5j ha en el ed (b3j (is _) (a4t b (by omega) (k+3) S) (by omega) hn hi' (by omega) (by omega)))⟩
   unfold j3 at z;rw [if_neg q] at z;cases z
 have of_stay:(rn (k+5) C2 [.int (size:Int),r.d,.int (i:Int)] S=.ok (gD (j7 size r i)) S/\j7 size r i≠none)->(j7 size r i=none->Xn (rn (k+5) C2 [.int (size:Int),r.d,.int (i:Int)]) S λn S'=>n=S.length/\S'=S++[exS i])/\(j7 size r i≠none->rn (k+5) C2 [.int (size:Int),r.d,.int (i:Int)] S=.ok (gD (j7 size r i)) S):=λh=>⟨λz=>(h.2 z).elim,λ_=>h.1⟩
 cases w with
 | out=>exact of_stay (stay (some i) cl .ask rfl hst (by intro z;cases z))
 | ask=>
  cases cl with
  | true=>exact leave mk true false rfl hst (by intro z;cases z)
  | false=>exact of_stay (stay mk false .close rfl hst (by intro z;cases z))
 | close=>exact of_stay (stay mk true .look rfl hst (by intro z;cases z))
 | look=>
  by_cases q:mk=some i
  ·exact of_stay (stay mk cl .holds (a8w q) (by rw [hst];exact if_pos q) (by intro z;cases z))
  ·exact leave mk cl true (a4r q) (by rw [hst];exact if_neg q) (by intro z;cases z)
 | holds=>exact ⟨λ_=>c6f ha en el (c3r wi (by omega) (k+2) S),λz=>(z hst).elim⟩
end
end L3.K15
end
section
set_option maxHeartbeats 1000000
namespace L3
open PySem PySem.Spec PyProof.Rows L2
theorem a8h (ns:List Int) (S:Sto):b8 .NotEq (.lst (ns.map D.int)) (.lst []) S=.ok (.bl (!ns.isEmpty)) S:=by
 have e:m3 64 S (.lst (ns.map D.int))=some (.list (ns.map PyData.int)):=by
  show (k9 (m3 63 S) (ns.map D.int)).map PyData.list=_
  rw [a30 62 S ns];rfl
 have l:(PyData.list (ns.map PyData.int)).canLay0=true:=by simp only [PyData.canLay0];exact a7s ns
 have v:PyData.eqv (.list (ns.map PyData.int)) (.list [])=ns.isEmpty:=by cases ns <;> rfl
 show eqP true (.lst (ns.map D.int)) (.lst []) S=_
 unfold eqP
 rw [e,show m3 64 S (.lst [])=some (.list []) from rfl]
 simp only
 rw [if_pos ⟨l,rfl,by rw [show PyData.depth (.list [])=1 from rfl];omega⟩,v];rfl
end L3
namespace L3.Nt
open PySem PySem.Spec PyProof.Rows L2
theorem c15 {p:W7->Bool} {t:D->M Bool} {ws:List W7} {S:Sto} (hl:ws.length<=6) (ht:∀ w:W7,t w.d S=.ok (p w) S):nx (bind (y9 (.tup (ws.map W7.d))) λsm=>i4 sm.1 t (λd=>ret d) sm.2 0 []) S=.ok ((ws.filter p).map W7.d) S:=by
 have e:=i7 (l:=ws) (h:=W7.d) (g:=W7.d) (p:=p) (t:=t) (f:=λd=>ret d) (S:=S) (U0 hl) (λa _=>ht a) (λa _ _=>rfl)
 refine c06 ?_
 rw [b7 (T8 _ S)]
 simp only [List.length_map]
 exact e
theorem b34 (ws:List W7):ws.any (λw=>decide (w=.holds))=decide (0<ws.countP λw=>decide (w=.holds)):=by
 induction ws with
 | nil=>rfl
 | cons w ws ih=>
  rw [List.any_cons,List.countP_cons,ih]
  cases w <;> simp
end L3.Nt
namespace L3.K15
open PySem PySem.Spec PyProof.Rows L2 L3.Nt
theorem c18 {mk:Option Nat} {cl:Bool} {ws:List W7} (hl:ws.length<=6) (hm:∀ g,mk=some g->g<ws.length) (k:Nat) (S:Sto):rn (k+1) b23 [.tup [oD mk,.bl cl,.tup (ws.map W7.d)]] S=.ok (.str (amH mk cl ws)) S:=by
 refine d9 ?_
 rw [rn,c7 (fd:=z11_F) rfl,b9c,b7e]
 refine Ok.first<|Ok.cg (c81 ..)<|Ok.eq (a:=.nx [some (.tup [oD mk,.bl cl,.tup (ws.map W7.d)]),some (oD mk),some (.bl cl),some (.tup (ws.map W7.d)),none]) rfl ?_
 have t1:∀ w:W7,(bind (b8 .In w.d (.tup [(.str "look"),(.str "holds"),(.str "right"),(.str "down")])) λx4=>bind (asB x4) λz5=>ret z5) S=.ok (op4 w) S:=λw=>by cases w <;> kernel_rfl
 have t2:∀ w:W7,(bind (b8 .In w.d (.tup [(.str "look"),(.str "holds"),(.str "down")])) λx4=>bind (asB x4) λz5=>ret z5) S=.ok (cl3 w) S:=λw=>by cases w <;> kernel_rfl
 have t3:∀ w:W7,(bind (b8 .NotEq w.d (.str "out")) λx5=>bind (asB x5) λz6=>ret z6) S=.ok (decide (w≠.out)) S:=λw=>by cases w <;> kernel_rfl
 have rest:(if cl=false/\ws.any op4=true then False else if cl=true/\ws.any cl3=false then False else True)->Ok (nxt (evK Rs Γ (rn k) 40) K1 [nth z11_F.body 3,nth z11_F.body 4,nth z11_F.body 5,nth z11_F.body 6,nth z11_F.body 7] endD (.nx [some (.tup [oD mk,.bl cl,.tup (ws.map W7.d)]),some (oD mk),some (.bl cl),some (.tup (ws.map W7.d)),none])) S λd S'=>d=.str (amH mk cl ws)/\S'=S:=by
  intro hq
  have q1:¬ (cl=false/\ws.any op4=true):=λz=>by rw [if_pos z] at hq;exact hq
  have q2:¬ (cl=true/\ws.any cl3=false):=λz=>by rw [if_neg q1,if_pos z] at hq;exact hq
  have am:amH mk cl ws=amM ws mk:=by
   unfold amH;rw [if_neg q1,if_neg q2]
  rw [am]
  refine Ok.nxt<|Ok.cg (c7l ..) ?_
  cases mk with
  | none=>
   refine Ok.eq (a:=.bl true) rfl<|Ok.eq rfl<|Ok.pos rfl<|Ok.eq (c15 hl t3)<|Ok.eq (a9a _ S).2<|Ok.eq (i6 _ _) ?_
   rw [filter_nil,Bool.not_not]
   refine Ok.ite (λz=>Ok.ret ⟨?_,rfl⟩) λz=>Ok.ret ⟨?_,rfl⟩
   ·unfold amM;rw [if_pos z]
   ·unfold amM;rw [if_neg z]
  | some g=>
   obtain ⟨w,hg⟩:∃ w,ws[g]?=some w:=⟨_,List.getElem?_eq_getElem (hm g rfl)⟩
   have ae:amM ws (some g)=(if some w=some W7.out\/some w=some .down then ("mark" : Str) else if ws.any (λw=>decide (w=.holds))=true/\(some w=some .close\/some w=some .look) then ("late" : Str) else if 1<ws.countP (λw=>decide (w=.holds)) then ("twice" : Str) else ("" : Str)):=by
    rw [<- hg];rfl
   rw [ae]
   refine Ok.eq (a:=.bl false) rfl<|Ok.eq rfl<|Ok.neg (by decide)<|Ok.nxt<|Ok.cg (c97 ..)<|Ok.eq (k7 S (i8 hg))<|Ok.eq (S1:=S) (a:=.bl (decide (w=.out\/w=.down))) (by cases w <;> kernel_rfl)<|Ok.eq (i6 _ _)<|Ok.ite (λz=>Ok.ret ⟨?_,rfl⟩) λz=>?_
   ·have z:=of_decide_eq_true z
    simp only [Option.some.injEq];rw [if_pos z]
   have z:=of_decide_eq_false (Bool.eq_false_iff.mpr z)
   have ln:j8 (.tup (ws.map W7.d)) S=.ok (.int (ws.length:Int)) S:=(u6 _ S).trans (by rw [List.length_map])
   refine Ok.nxt<|Ok.cg (c7p ..)<|nx_bind<|Ok.eq ln<|Ok.eq (v9 (by omega) _) ((Ok.comp (n:=ws.length) (λj S' es=>S'=S/\∃ v:List Int,es=v.map D.int/\v.length=(ws.take j).countP λw=>decide (w=.holds)) (λS' es _=>u4 _ S') ?_ ⟨rfl,[],rfl,rfl⟩).mono ?_)
   ·rintro j S' es hj ⟨hS,v,rfl,hv⟩
    cases hS
    have hw:ws[j]?=some ws[j]:=List.getElem?_eq_getElem hj
    have ta:ws.take (j+1)=ws.take j++[ws[j]]:=List.take_succ_eq_append_getElem hj
    rw [ta,List.countP_append]
    generalize ws[j]=u at hw
    have lv:v.length<=6:=by
     have:=List.countP_le_length (p:=λw:W7=>decide (w=.holds)) (l:=ws.take j)
     have:=List.length_take_le j ws
     omega
    refine ⟨.int (j:Int),A0 hj S,Ok.eq (k7 S (i8 hw))<|Ok.eq (S1:=S) (a:=.bl (decide (u=.holds))) (by cases u <;> kernel_rfl)<|Ok.eq (i6 _ _)<|Ok.ret ?_⟩
    by_cases z:u=.holds
    ·rw [if_pos (decide_eq_true z)]
     exact Ok.ret ⟨by rw [List.length_map];exact U0 lv,rfl,v++[(j:Int)],by rw [List.map_append];rfl,by simp [z];exact hv⟩
    ·rw [if_neg (by rw [decide_eq_false z];decide)]
     exact ⟨rfl,v,rfl,by simp [z];exact hv⟩
   rintro _ S' ⟨hS,v,rfl,hv⟩
   cases hS
   rw [List.take_length] at hv
   have lst:¬ (ws.any (λw=>decide (w=.holds))=true/\(w=.close\/w=.look))->Ok (nxt (evK Rs Γ (rn k) 40) K1 [nth z11_F.body 7] endD (.nx [some (.tup [oD (some g),.bl cl,.tup (ws.map W7.d)]),some (oD (some g)),some (.bl cl),some (.tup (ws.map W7.d)),some (.lst (v.map D.int))])) S λd S'=>d=.str (if some w=some W7.out\/some w=some .down then "mark" else if ws.any (λw=>decide (w=.holds))=true/\(some w=some .close\/some w=some .look) then "late" else if 1<ws.countP (λw=>decide (w=.holds)) then "twice" else "")/\S'=S:=by
    intro y
    refine Ok.nxt<|Ok.cg (c9u ..)<|Ok.eq ((a18 _ S).trans (by rw [List.length_map]))<|Ok.eq (a88 _ _ _)<|Ok.eq (i6 _ _) ?_
    simp only [Option.some.injEq]
    rw [if_neg z,if_neg y,<- hv]
    refine Ok.ite (λx=>Ok.ret ⟨?_,rfl⟩) λx=>Ok.ret ⟨?_,rfl⟩
    ·have x:=of_decide_eq_true x
     rw [if_pos (by omega)]
    ·have x:=of_decide_eq_false (Bool.eq_false_iff.mpr x)
     rw [if_neg (by omega)]
   have va:(!v.isEmpty)=ws.any (λw=>decide (w=.holds)):=by
    rw [b34,<- hv]
    cases v <;> simp
   refine Ok.nxt<|Ok.cg (c6g ..)<|Ok.eq (a8h v S)<|Ok.eq (i6 _ _) ?_
   rw [va]
   refine Ok.ite (λx=>?_) λx=>lst λy=>x y.1
   refine Ok.eq (k7 S (i8 hg))<|Ok.eq (S1:=S) (a:=.bl (decide (w=.close\/w=.look))) (by cases w <;> kernel_rfl)<|Ok.eq (i6 _ _)<|Ok.ite (λy=>Ok.ret ⟨?_,rfl⟩) λy=>lst λy'=>y (decide_eq_true y'.2)
   have y:=of_decide_eq_true y
   simp only [Option.some.injEq]
   rw [if_neg z,if_pos ⟨x,y⟩]
 cases cl with
 | false=>
  refine Ok.nxt<|Ok.cg (c10 ..)<|Ok.eq (a:=false) rfl<|Ok.pos rfl<|Ok.eq (c15 hl t1)<|Ok.eq (a9a _ S).2<|Ok.eq (i6 _ _) ?_
  rw [filter_nil,Bool.not_not]
  refine Ok.ite (λz=>Ok.ret ⟨?_,rfl⟩) λz=>?_
  ·unfold amH;rw [if_pos ⟨rfl,z⟩]
  ·refine Ok.nxt<|Ok.cg (c1u ..)<|Ok.eq (a:=false) rfl<|Ok.neg (by decide)<|rest ?_
   rw [if_neg (λy=>z y.2),if_neg (λy=>by cases y.1)];trivial
 | true=>
  refine Ok.nxt<|Ok.cg (c10 ..)<|Ok.eq (a:=true) rfl<|Ok.neg (by decide)<|Ok.nxt<|Ok.cg (c1u ..)<|Ok.eq (a:=true) rfl<|Ok.pos rfl<|Ok.eq (c15 hl t2)<|Ok.eq (a9a _ S).1<|Ok.eq (i6 _ _) ?_
  rw [filter_nil]
  refine Ok.ite (λz=>Ok.ret ⟨?_,rfl⟩) λz=>rest ?_
  ·unfold amH;rw [if_neg (λy=>by cases y.1),if_pos ⟨rfl,by simpa using z⟩]
  ·rw [if_neg (λy=>by cases y.1),if_neg (λy=>z (by rw [y.2];rfl))];trivial
end L3.K15
end

section
set_option maxHeartbeats 1000000
namespace L3.Nt
open PySem PySem.Spec PyProof.Rows L2
theorem d0c (mk:Option Nat) (cl:Bool) (ws:List W7):amH mk cl ws = "open"\/amH mk cl ws = "closed"\/amH mk cl ws = "free"\/amH mk cl ws = "mark"\/amH mk cl ws = "late"\/amH mk cl ws = "twice"\/amH mk cl ws = "":=by
 unfold amH
 split
 ·exact .inl rfl
 ·split
  ·exact .inr (.inl rfl)
  ·unfold amM
   split
   ·split
    ·exact .inr (.inr (.inl rfl))
    ·exact .inr (.inr (.inr (.inr (.inr (.inr rfl)))))
   ·split
    ·exact .inr (.inr (.inr (.inl rfl)))
    ·split
     ·exact .inr (.inr (.inr (.inr (.inl rfl))))
     ·split
      ·exact .inr (.inr (.inr (.inr (.inr (.inl rfl)))))
      ·exact .inr (.inr (.inr (.inr (.inr (.inr rfl)))))
end L3.Nt
namespace L3.K15
open PySem PySem.Spec PyProof.Rows L2 L3.Nt
noncomputable def B3 (size:Nat) (r:Nst) (n:Nat):Str:=match r.bx[n]?,(v3 size)[n]? with
 | some b,some c=>amH b.1 b.2 (r.hs.map λh=>P6 (pC h.1 c) h)
 | _,_=>""
theorem b9b (size:Nat) (r:Nst) (n:Nat):B3 size r n = "open"\/B3 size r n = "closed"\/B3 size r n = "free"\/B3 size r n = "mark"\/B3 size r n = "late"\/B3 size r n = "twice"\/B3 size r n = "":=by
 unfold B3
 split
 ·exact d0c _ _ _
 ·exact .inr (.inr (.inr (.inr (.inr (.inr rfl)))))
theorem c1t (size:Nat) (r:Nst) (n:Nat) (S:Sto):b8 .NotEq (.str (B3 size r n)) (.str "") S=.ok (.bl (decide (B3 size r n ≠ ""))) S/\(b8 .Eq (.tup [.str (B3 size r n),.int (n:Int)]) (.tup []) S=.ok (.bl false) S):=by
 rcases b9b size r n with e | e | e | e | e | e | e <;> rw [e] <;> exact ⟨by kernel_rfl,by kernel_rfl⟩
section
variable {size many:Nat} {r:Nst} (V:VN size many r) (h0:0<size) (k:Nat) (S:Sto)
include V h0
theorem c0q {n:Nat} (hn:n<tri size):(bind (rn (k+2) b38 [.int (size:Int),r.d,.int (n:Int)]) λx1=>rn (k+2) b23 [x1]) S=.ok (.str (B3 size r n)) S:=by
 have b1:=V.bl
 have b2:=V.hl
 have h5:=V.s5
 have m5:=V.m5
 have hb:r.bx[n]?=some r.bx[n]:=List.getElem?_eq_getElem (by omega)
 have hbm:=V.mg r.bx[n] (List.getElem_mem (by omega))
 generalize r.bx[n]=b at hb hbm
 obtain ⟨c,hc⟩:∃ c,(v3 size)[n]?=some c:=⟨_,List.getElem?_eq_getElem (by rw [U3 h5];exact hn)⟩
 have el:=d9 (c2t (r:=r) h5 h0 hb hc (by omega) k S)
 have e1:U7 r b (λh=>pC h.1 c)=.tup [oD b.1,.bl b.2,.tup ((r.hs.map λh=>P6 (pC h.1 c) h).map W7.d)]:=by
  have e2:(r.hs.map λh=>j0 (pC h.1 c) h)=(r.hs.map λh=>P6 (pC h.1 c) h).map W7.d:=by
   rw [List.map_map];exact List.map_congr_left λh _=>(a24 _ h).symm
  unfold U7
  rw [e2]
 rw [e1] at el
 rw [b7 el]
 have ea:B3 size r n=amH b.1 b.2 (r.hs.map λh=>P6 (pC h.1 c) h):=by unfold B3;rw [hb,hc]
 rw [ea]
 exact c18 (by rw [List.length_map];omega) (λg hg=>by rw [List.length_map,b2];exact hbm g hg) (k+1) S
theorem b5h:Ok (rn (k+3) c5z [.int (size:Int),r.d]) S λd S'=>S'=S/\((d=.tup []/\∀ n,n<tri size->B3 size r n = "")\/∃ n,n<tri size/\d=.tup [.str (B3 size r n),.int (n:Int)]/\B3 size r n ≠ ""/\∀ j,j<n->B3 size r j = ""):=by
 have b1:=V.bl
 have b5:=a0h V.s5
 have l1:j8 (.tup (r.bx.map bxD)) S=.ok (.int (tri size:Int)) S:=(u6 _ S).trans (by rw [List.length_map,b1])
 rw [rn,c7 (fd:=z34_F) rfl,b8o,b8g]
 refine Ok.first<|Ok.cg (d0h ..)<|Ok.eq (a:=.tup (r.bx.map bxD)) rfl<|Ok.eq l1<|Ok.eq (v9 (by omega) _)<|Ok.bind ((Ok.for_ (n:=tri size) (λi ρ S'=>S'=S/\(∀ j,j<i->B3 size r j = "")/\∃ o3 o4:Option D,ρ=[some (.int (size:Int)),some r.d,o3,o4]) (λ_ _=>False) (λd S'=>S'=S/\∃ n,n<tri size/\d=.tup [.str (B3 size r n),.int (n:Int)]/\B3 size r n ≠ ""/\∀ j,j<n->B3 size r j = "") (λρ S' _=>u4 _ S') ?_ (tri size) 0 _ _ (by omega) ⟨rfl,λj hj=>by omega,_,_,rfl⟩).mono ?_)
 ·rintro i ρ S' hi ⟨hS,hj,o3,o4,rfl⟩
  cases hS
  refine ⟨.int (i:Int),_,A0 hi S,rfl,?_⟩
  unfold a5z
  rw [a4b]
  refine Ok.first<|Ok.cg (b0a ..)<|Ok.cg (V4 ..)<|Ok.eq (c0q V h0 k S hi)<|Ok.nxt<|Ok.cg (b09 ..)<|Ok.eq (c1t size r i S).1<|Ok.eq (i6 _ _)<|Ok.ite (λz=>Ok.ret ?_) λz=>Ok.ret ?_
  ·exact ⟨rfl,i,hi,rfl,of_decide_eq_true z,hj⟩
  ·refine ⟨rfl,λj hj'=>?_,_,_,rfl⟩
   rcases Nat.lt_succ_iff_lt_or_eq.mp hj' with y | y
   ·exact hj j y
   ·rw [y];simpa using z
 ·rintro fl S' hf
  cases fl with
  | nx ρ=>
   rcases hf with ⟨hS,hj,o3,o4,rfl⟩ | hf
   ·cases hS
    exact Ok.nxt<|Ok.cg (c9m ..)<|Ok.ret ⟨rfl,.inl ⟨rfl,hj⟩⟩
   ·exact hf.elim
  | rt d=>exact Ok.ret ⟨hf.1,.inr hf.2⟩
  | bk ρ=>exact hf.elim
  | ct ρ=>exact hf.elim
end
theorem a9y:((List.range 6).all λsize=>(List.range 5).all λa=>(List.range 5).all λb=>!(decide (a+b<size))||decide ((v3 size)[E2 (a,b)]?=some (a,b)))=true:=by decide +kernel
theorem b3e {size:Nat} (h5:size<=5) {c:Nat×Nat} (hc:c.1+c.2<size):(v3 size)[E2 c]?=some c:=by
 have a:=List.all_eq_true.mp a9y size (List.mem_range.mpr (by omega))
 have a:=List.all_eq_true.mp a c.1 (List.mem_range.mpr (by omega))
 have a:=List.all_eq_true.mp a c.2 (List.mem_range.mpr (by omega))
 rw [decide_eq_true hc] at a
 exact of_decide_eq_true (by simpa using a)
theorem c2q {size many:Nat} {r:Nst} (V:VN size many r) (h:∀ n,n<tri size->B3 size r n = ""):GoodN size r:=by
 intro c hc
 have hn:=a8z hc
 have hn2:E2 c<r.bx.length:=by rw [V.bl];exact hn
 have hb:r.bx[E2 c]?=some r.bx[E2 c]:=List.getElem?_eq_getElem hn2
 have hbm:=V.mg r.bx[E2 c] (List.getElem_mem hn2)
 generalize r.bx[E2 c]=b at hb hbm
 have e:=h _ hn
 unfold B3 at e
 rw [hb,b3e V.s5 hc] at e
 have ew:(r.hs.map λh=>P6 (pC h.1 c) h)=r.hs.map (w7c c):=List.map_congr_left λh _=>a2s c h
 simp only at e
 rw [ew] at e
 exact ⟨b,hb,(b8c (λg hg=>by rw [List.length_map,V.hl];exact hbm g hg)).mp e⟩
theorem any_ok {ns:List Int} {p N size many:Nat} {S:Sto} (F:Fw ns p (N+180) S) (h0:0<size) (h5:size<=5) (m0:0<many) (m5:many<=5) (k:Nat):Ok (rn (k+5) c6a [.ref p,.int (size:Int),.int (many:Int)]) S λd S'=>Fw ns p N S'/\∃ r,d=Nst.d r/\VN size many r/\GoodN size r:=by
 rw [rn,c7 (fd:=z16_F) rfl,c0j,b7f]
 refine Ok.first<|Ok.cg (c8v ..)<|Ok.bind ((a6h (N:=N+120) (F.less (by omega)) h0 h5 m0 m5 k).mono ?_)
 rintro _ S1 ⟨F1,r,rfl,V,G⟩
 refine Ok.nxt<|Ok.cg (c7o ..)<|Ok.eq (v9 (n:=10) (by omega) _)<|Ok.bind ((Ok.loop (n:=10) (λi ρ S'=>Fw ns p (N+12 * (10-i)) S'/\∃ (r:Nst) (o5 o6:Option D),VN size many r/\GoodN size r/\ρ=[some (.ref p),some (.int (size:Int)),some (.int (many:Int)),some r.d,o5,o6]) (λρ S' _=>u4 10 S') ?_ ⟨F1.less (by omega),r,_,_,V,G,rfl⟩).mono ?_)
 ·rintro i ρ S2 hi ⟨F2,r,o5,o6,V,G,rfl⟩
  refine ⟨.int (i:Int),_,A0 hi S2,rfl,?_⟩
  unfold a41
  rw [a4d]
  refine Ok.first<|Ok.cg (b00 ..)<|Ok.bind ((b1g (N:=N+12 * (10-(i+1))) (F2.less (by omega)) V h0 m0 (k+2)).mono ?_)
  rintro _ S3 ⟨F3,r',rfl,V'⟩
  refine Ok.nxt<|Ok.cg (b0b ..)<|Ok.bind ((b5h V' h0 (k+1) S3).mono ?_)
  rintro d S4 ⟨hS,hd⟩
  cases hS
  rcases hd with ⟨rfl,hg⟩ | ⟨n,_,rfl,_,_⟩
  ·exact Ok.eq (a:=.bl true) rfl<|Ok.eq rfl<|Ok.pos rfl<|Ok.ret ⟨_,.inl rfl,F3,r',_,_,V',c2q V' hg,rfl⟩
  ·exact Ok.eq (c1t size r' n S3).2<|Ok.eq rfl<|Ok.neg (by decide)<|Ok.ret ⟨_,.inl rfl,F3,r,_,_,V,G,rfl⟩
 ·rintro _ S3 ⟨ρ,rfl,F3,r,o5,o6,V,G,rfl⟩
  exact Ok.nxt<|Ok.cg (c8g ..)<|Ok.ret ⟨F3.less (by omega),r,rfl,V,G⟩
end L3.K15
end

section
set_option maxHeartbeats 1000000
namespace L3.Nt
open PySem PySem.Spec PyProof.Rows L2
theorem a2x:∀ ws:List W7,u8 (ws.map W7.d)=some (ws.map W7.s)
 | []=>rfl
 | w :: ws=>by
  show (u8 (ws.map W7.d)).map (w.s :: ·)=_
  rw [a2x ws];rfl
theorem a7m (x:W7):∀ ws:List W7,countIn (.str x.s) ((ws.map W7.s).map PyData.str)=((ws.countP λw=>decide (w=x):Nat):Int)
 | []=>rfl
 | w :: ws=>by
  have e:countIn (.str x.s) (((w :: ws).map W7.s).map PyData.str)=(if w=x then 1 else 0)+countIn (.str x.s) ((ws.map W7.s).map PyData.str):=by
   cases x <;> cases w <;> rfl
  rw [e,a7m x ws,List.countP_cons]
  by_cases q:w=x
  ·rw [if_pos q,if_pos (decide_eq_true q)];omega
  ·rw [if_neg q,if_neg (by rw [decide_eq_false q];decide)];omega
theorem c1n (x:W7) (ws:List W7) (S:Sto):countT (.tup (ws.map W7.d)) [.str x.s] S=.ok (.int ((ws.countP λw=>decide (w=x):Nat):Int)) S:=by
 show (match u8 (ws.map W7.d) with
  | some ys=>ret (D.int (countIn (.str x.s) (ys.map PyData.str)))
  | none=>bad) S=_
 rw [a2x]
 show R.ok (D.int (countIn (.str x.s) ((ws.map W7.s).map PyData.str))) S=_
 rw [a7m]
theorem c9n {ws:List W7} (S:Sto):b8 .In (.str "holds") (.tup (ws.map W7.d)) S=.ok (.bl (ws.any λw=>decide (w=.holds))) S:=by
 have sm:Sml 0 60 (.str "holds"):=Sml.w
 rw [b14,b2n (sm.any (by decide)) (by decide) (λw hw=>by
  obtain ⟨x,_,rfl⟩:=List.mem_map.mp hw
  exact x.asc) S]
 congr 2
 show decide (("holds" : Str)∈ws.map W7.s)=_
 induction ws with
 | nil=>rfl
 | cons w ws ih=>
  rw [List.any_cons,<- ih,List.map_cons]
  by_cases q:w=.holds
  ·rw [q];simp [W7.s]
  ·rw [decide_eq_false q,Bool.false_or]
   have ne:("holds" : Str)≠w.s:=by cases w <;> first | exact absurd rfl q | decide
   simp [ne]
end L3.Nt
namespace L3.K15
open PySem PySem.Spec PyProof.Rows L2 L3.Nt
theorem O9 (ds:List D) (n:Nat) (k:Nat) (S:Sto):rn (k+1) U1 [.tup ds,.int (n:Int)] S=.ok (.bl (decide ((ds.length:Int)=(n:Int)))) S:=by
 refine d9 ?_
 rw [rn,c7 (fd:=b6k) rfl,b9v]
 exact Ok.eq (a:=.bl true) rfl<|Ok.eq (a:=true) rfl<|Ok.pos rfl<|Ok.eq (u6 _ S)<|Ok.eq (O2 _ _ _)<|Ok.ret ⟨rfl,rfl⟩
theorem a8q {o:Option Nat} {many:Nat} (h:∀ g,o=some g->g<many) (k:Nat) (S:Sto):rn (k+2) c35 [.int (many:Int),oD o] S=.ok (.bl true) S:=by
 refine d9 ?_
 rw [rn,c7 (fd:=b26) rfl,b8e]
 cases o with
 | none=>exact Ok.eq (a:=.bl true) rfl<|Ok.eq (a:=true) rfl<|Ok.pos rfl<|Ok.ret ⟨rfl,rfl⟩
 | some g=>
  have e:rn (k+1) c2b [.int (g:Int)] S=.ok (.bl true) S:=by
   refine d9 ?_
   rw [rn,c7 (fd:=b2t) rfl,b9e]
   exact Ok.eq (a:=.bl true) rfl<|Ok.eq (a:=true) rfl<|Ok.pos rfl<|Ok.eq (a:=.bl false) rfl<|Ok.eq (a:=false) rfl<|Ok.ret ⟨rfl,rfl⟩
  have:=h g rfl
  refine Ok.eq (a:=.bl false) rfl<|Ok.eq (a:=false) rfl<|Ok.neg (by decide)<|Ok.eq e<|Ok.eq (a:=true) rfl<|Ok.pos rfl<|Ok.eq (c8c 0 (g:Int) S)<|Ok.eq (i6 _ _)<|Ok.pos (decide_eq_true (by omega))<|Ok.eq (a74 (g:Int) (many:Int) S)<|Ok.ret ⟨?_,rfl⟩
  rw [decide_eq_true (by omega)]
theorem c4i {b:Box} {many:Nat} (h:∀ g,b.1=some g->g<many) (k:Nat) (S:Sto):rn (k+3) b52 [.int (many:Int),bxD b] S=.ok (.bl true) S:=by
 refine d9 ?_
 rw [rn,c7 (fd:=b40) rfl,b9o]
 exact Ok.eq (O9 [oD b.1,.bl b.2] 2 (k+1) S)<|Ok.eq (a:=true) rfl<|Ok.pos rfl<|Ok.eq (a:=oD b.1) rfl<|Ok.eq (a8q h k S)<|Ok.eq (a:=true) rfl<|Ok.pos rfl<|Ok.eq (a:=.bl b.2) rfl<|Ok.eq (a:=.bl true) rfl<|Ok.ret ⟨rfl,rfl⟩
theorem c93 {α:Type} (l:List α):(l.map λ_=>true).all id=true:=by induction l <;> simp_all
theorem R7 {α:Type} {l:List α} {h:α->D} {f:D->M D} {S:Sto} (hl:l.length<sizeLine) (hf:∀ a∈l,f (h a) S=.ok (.bl true) S):(bind (nx (bind (y9 (.tup (l.map h))) λsm=>i4 sm.1 (λ_=>ret true) f sm.2 0 [])) λl4=>a3g (.lst l4)) S=.ok (.bl true) S:=by
 have c:=i7 (l:=l) (h:=h) (g:=λ_=>D.bl true) (p:=λ_=>true) (t:=λ_=>ret true) (f:=f) (S:=S) hl (λ_ _=>rfl) (λa ha _=>hf a ha)
 rw [List.filter_eq_self.mpr (λ_ _=>rfl)] at c
 have c2:nx (bind (y9 (.tup (l.map h))) λsm=>i4 sm.1 (λ_=>ret true) f sm.2 0 []) S=.ok (l.map λ_=>D.bl true) S:=by
  refine c06 ?_
  rw [b7 (T8 _ S)]
  simp only [List.length_map]
  exact c
 rw [b7 c2,show (l.map λ_=>D.bl true)=(l.map λ_=>true).map D.bl by rw [List.map_map];rfl,all_ok,c93]
theorem b4p {t:List Bool} {size:Nat} (ht:t.length<size) (h5:size<=5) (k:Nat) (S:Sto):rn (k+1) c2u [.int (size:Int),trD t] S=.ok (.bl true) S:=by
 refine d9 ?_
 rw [rn,c7 (fd:=b6q) rfl,b7i]
 have lt:j8 (trD t) S=.ok (.int (t.length:Int)) S:=(u6 _ S).trans (by rw [List.length_map])
 refine Ok.eq (a:=.bl true) rfl<|Ok.eq (a:=true) rfl<|Ok.pos rfl<|Ok.eq lt<|Ok.eq (a74 _ _ S) ?_
 rw [decide_eq_true (show (t.length:Int)<(size:Int) by omega)]
 refine Ok.eq (a:=true) rfl<|Ok.pos rfl<|Ok.cg (V4 ..)<|Ok.eq (R7 (l:=t) (h:=j4) (U0 (by omega)) λb _=>?_)<|Ok.ret ⟨rfl,rfl⟩
 cases b <;> kernel_rfl
theorem b85 {h:Hnd} {size:Nat} (ht:h.1.length<size) (h5:size<=5) (k:Nat) (S:Sto):rn (k+2) c11 [.int (size:Int),hdD h] S=.ok (.bl true) S:=by
 refine d9 ?_
 rw [rn,c7 (fd:=c5f) rfl,c3x]
 refine Ok.eq (O9 [trD h.1,h.2.d] 2 k S)<|Ok.eq (a:=true) rfl<|Ok.pos rfl<|Ok.eq (a:=trD h.1) rfl<|Ok.eq (b4p ht h5 k S)<|Ok.eq (a:=true) rfl<|Ok.pos rfl<|Ok.eq (a:=h.2.d) rfl<|Ok.eq (S1:=S) (a:=.bl true) ?_<|Ok.ret ⟨rfl,rfl⟩
 cases h.2 <;> kernel_rfl
theorem b4g {size many:Nat} {r:Nst} (V:VN size many r) (k:Nat) (S:Sto):rn (k+4) c8q [.int (size:Int),.int (many:Int),r.d] S=.ok (.bl true) S:=by
 have b1:=V.bl
 have b2:=V.hl
 have b5:=a0h V.s5
 have h5:=V.s5
 have m5:=V.m5
 refine d9 ?_
 rw [rn,c7 (fd:=z1_F) rfl,c48,c4o]
 have e1:rn (k+3) U1 [.tup (r.bx.map bxD),.int (tri size:Int)] S=.ok (.bl true) S:=by
  rw [O9,List.length_map,b1,decide_eq_true rfl]
 have e2:rn (k+3) U1 [.tup (r.hs.map hdD),.int (many:Int)] S=.ok (.bl true) S:=by
  rw [O9,List.length_map,b2,decide_eq_true rfl]
 have e0:rn (k+3) U1 [r.d,.int 2] S=.ok (.bl true) S:=O9 [.tup (r.bx.map bxD),.tup (r.hs.map hdD)] 2 (k+2) S
 have e3:=R7 (l:=r.bx) (h:=bxD) (f:=λd1=>bind (rn (k+3) b52 [.int (many:Int),d1]) λx3=>ret x3) (S:=S) (by rw [sizeLine_eq];omega) λb hb=>by rw [b7 (c4i (V.mg b hb) k S)];rfl
 have e4:=R7 (l:=r.hs) (h:=hdD) (f:=λd1=>bind (rn (k+3) c11 [.int (size:Int),d1]) λx3=>ret x3) (S:=S) (by rw [sizeLine_eq];omega) λh hh=>by rw [b7 (b85 (V.tr h hh) h5 (k+1) S)];rfl
 refine Ok.first<|Ok.cg (d2e ..)<|Ok.eq e0<|Ok.eq (a:=true) rfl<|Ok.neg (by decide) ?_
 refine Ok.nxt<|Ok.cg (d03 ..)<|Ok.eq (a:=.nx [some (.int (size:Int)),some (.int (many:Int)),some r.d,some (.tup (r.bx.map bxD)),some (.tup (r.hs.map hdD))]) rfl ?_
 refine Ok.nxt<|Ok.cg (d01 ..)<|Ok.eq (a7x size (by omega) (k+2) S)<|Ok.eq e1<|Ok.eq (a:=true) rfl<|Ok.neg (by decide)<|Ok.eq e2<|Ok.eq (a:=true) rfl<|Ok.neg (by decide) ?_
 refine Ok.nxt<|Ok.cg (d2u ..) ?_
 refine Ok.cg (V4 ..) ?_
 refine Ok.eq e3 ?_
 refine Ok.eq (a:=true) rfl<|Ok.pos rfl ?_
 refine Ok.cg (V4 ..) ?_
 refine Ok.eq e4 ?_
 exact Ok.ret ⟨rfl,rfl⟩
theorem a8x {ws:List W7} {ds:List D} {p:W7->Bool} (hl:ws.length<=6) (S:Sto) (hp:∀ w:W7,b8 .In w.d (.tup ds) S=.ok (.bl (p w)) S) (k:Nat):rn (k+1) c5m [.tup (ws.map W7.d),.tup ds] S=.ok (.bl (ws.any p)) S:=by
 refine d9 ?_
 rw [rn,c7 (fd:=b2a) rfl,b7c]
 have c:=i7 (l:=ws) (h:=W7.d) (g:=λw=>D.bl (p w)) (p:=λ_=>true) (t:=λ_=>ret true) (f:=λd1=>bind (b8 .In d1 (.tup ds)) λx3=>ret x3) (S:=S) (U0 hl) (λ_ _=>rfl) (λa _ _=>by rw [b7 (hp a)];rfl)
 rw [List.filter_eq_self.mpr (λ_ _=>rfl)] at c
 refine nx_bind<|Ok.eq (T8 _ S) ?_
 simp only [List.length_map]
 refine Ok.of c ?_
 rw [show (ws.map λw=>D.bl (p w))=(ws.map p).map D.bl by rw [List.map_map];rfl]
 refine Ok.eq (L3.any_ok _ S)<|Ok.ret ⟨?_,rfl⟩
 rw [List.any_map];rfl
theorem c63 (w:W7) (S:Sto):b8 .In w.d (.tup [(.str "look"),(.str "holds"),(.str "right"),(.str "down")]) S=.ok (.bl (op4 w)) S:=by cases w <;> kernel_rfl
theorem c7a (w:W7) (S:Sto):b8 .In w.d (.tup [(.str "look"),(.str "holds"),(.str "down")]) S=.ok (.bl (cl3 w)) S:=by cases w <;> kernel_rfl
theorem b0c {ws:List W7} {w:W7} {mk:Nat} {cl:Bool} (G:GoodL (some mk) cl ws) (hw:ws[mk]?=some w) (n:D) (k:Nat) (S:Sto):rn (k+1) c9o [w.d,.tup (ws.map W7.d),n] S=.ok .non S:=by
 obtain ⟨w',hw',w1,w2⟩:=G.g4 mk rfl
 rw [hw] at hw'
 cases hw'
 have i1:b8 .In w.d (.tup [(.str "out"),(.str "down")]) S=.ok (.bl false) S:=by
  cases w <;> first | exact absurd rfl w1 | exact absurd rfl w2 | kernel_rfl
 have i2:b8 .In w.d (.tup [(.str "close"),(.str "look")]) S=.ok (.bl (decide (w=.close\/w=.look))) S:=by cases w <;> kernel_rfl
 refine d9 ?_
 rw [rn,c7 (fd:=z5_F) rfl,c4q,c5u]
 refine Ok.first<|Ok.cg (d19 ..)<|Ok.eq i1<|Ok.eq (a:=false) rfl<|Ok.neg (by decide)<|Ok.nxt<|Ok.cg (d2g ..)<|Ok.eq i2<|Ok.eq (i6 _ _)<|Ok.ite (λz=>?_) λ_=>Ok.ret ⟨rfl,rfl⟩
 have z:=of_decide_eq_true z
 have nh:=G.g5 mk rfl (by rw [hw];exact z.imp (congrArg some) (congrArg some))
 have an:(ws.any λw=>decide (w=.holds))=false:=List.any_eq_false.mpr λv hv=>by rw [decide_eq_false (nh v hv)];decide
 refine Ok.eq (c9n S)<|Ok.eq (i6 _ _) ?_
 rw [an]
 exact Ok.neg (by decide)<|Ok.ret ⟨rfl,rfl⟩
theorem b1x {ws:List W7} {mk:Option Nat} {cl:Bool} (G:GoodL mk cl ws) (hl:ws.length<=6) (n:D) (k:Nat) (S:Sto):rn (k+2) c4w [.tup [oD mk,.bl cl,.tup (ws.map W7.d)],n] S=.ok .non S:=by
 refine d9 ?_
 rw [rn,c7 (fd:=z12_F) rfl,b9a,c0o]
 have g6:=G.g6
 have last:Ok (nxt (evK Rs Γ (rn (k+1)) 40) R5 [nth z12_F.body 5] endD (.nx [some (.tup [oD mk,.bl cl,.tup (ws.map W7.d)]),some n,some (oD mk),some (.bl cl),some (.tup (ws.map W7.d))])) S λd S'=>d=.non/\S'=S:=by
  exact Ok.nxt<|Ok.cg (c6y ..)<|Ok.eq (a:=ws.map W7.d) rfl<|Ok.eq (c1n .holds ws S)<|Ok.eq (a88 _ _ S)<|Ok.eq (i6 _ _)<|Ok.neg (by rw [decide_eq_false (by omega)];decide)<|Ok.ret ⟨rfl,rfl⟩
 have mid:Ok (nxt (evK Rs Γ (rn (k+1)) 40) R5 [nth z12_F.body 3,nth z12_F.body 4,nth z12_F.body 5] endD (.nx [some (.tup [oD mk,.bl cl,.tup (ws.map W7.d)]),some n,some (oD mk),some (.bl cl),some (.tup (ws.map W7.d))])) S λd S'=>d=.non/\S'=S:=by
  refine Ok.nxt<|Ok.cg (d0u ..) ?_
  cases mk with
  | none=>
   have c:(ws.countP λw=>decide (w=.out))=ws.length:=List.countP_eq_length.mpr λw hw=>decide_eq_true (G.g3 rfl w hw)
   have l1:j8 (.tup (ws.map W7.d)) S=.ok (.int (ws.length:Int)) S:=(u6 _ S).trans (by rw [List.length_map])
   have ct:=c1n .out ws S
   rw [c] at ct
   exact Ok.eq (a:=.bl true) rfl<|Ok.eq (a:=true) rfl<|Ok.pos rfl<|Ok.eq (a:=ws.map W7.d) rfl<|Ok.eq ct<|Ok.eq l1<|Ok.eq (a74 _ _ S)<|Ok.eq (i6 _ _)<|Ok.neg (by rw [decide_eq_false (by omega)];decide)<|Ok.nxt<|Ok.cg (c1g ..)<|Ok.eq (a:=.bl false) rfl<|Ok.eq (a:=false) rfl<|Ok.neg (by decide)<|last
  | some g=>
   obtain ⟨w,hw,_,_⟩:=G.g4 g rfl
   exact Ok.eq (a:=.bl false) rfl<|Ok.eq (a:=false) rfl<|Ok.neg (by decide)<|Ok.nxt<|Ok.cg (c1g ..)<|Ok.eq (a:=.bl true) rfl<|Ok.eq (a:=true) rfl<|Ok.pos rfl<|Ok.eq (k7 S (i8 hw))<|Ok.eq (b0c G hw n k S)<|last
 refine Ok.first<|Ok.cg (c9t ..)<|Ok.eq (a:=.nx [some (.tup [oD mk,.bl cl,.tup (ws.map W7.d)]),some n,some (oD mk),some (.bl cl),some (.tup (ws.map W7.d))]) rfl<|Ok.nxt<|Ok.cg (c8j ..)<|Ok.eq (a:=cl) rfl ?_
 cases cl with
 | false=>
  have a1:ws.any op4=false:=List.any_eq_false.mpr λw hw=>by rw [G.g1 rfl w hw];decide
  have e:=a8x (p:=op4) hl S (λw=>c63 w S) k
  rw [a1] at e
  exact Ok.pos rfl<|Ok.eq e<|Ok.eq (a:=false) rfl<|Ok.neg (by decide)<|Ok.nxt<|Ok.cg (c1y ..)<|Ok.eq (a:=false) rfl<|Ok.neg (by decide)<|mid
 | true=>
  obtain ⟨w,hw,e3⟩:=G.g2 rfl
  have a1:ws.any cl3=true:=List.any_eq_true.mpr ⟨w,hw,e3⟩
  have e:=a8x (p:=cl3) hl S (λw=>c7a w S) k
  rw [a1] at e
  exact Ok.neg (by decide)<|Ok.nxt<|Ok.cg (c1y ..)<|Ok.eq (a:=true) rfl<|Ok.pos rfl<|Ok.eq e<|Ok.eq (a:=true) rfl<|Ok.neg (by decide)<|mid
theorem b1i:((List.range 6).all λsize=>(List.range 15).all λn=>match (v3 size)[n]? with
  | some c=>decide (c.1+c.2<size)&&decide (E2 c=n)
  | none=>decide (tri size<=n))=true:=by decide +kernel
theorem c1c {size n:Nat} (h5:size<=5) (hn:n<tri size):∃ c:Nat×Nat,(v3 size)[n]?=some c/\c.1+c.2<size/\E2 c=n:=by
 have t:=a0h h5
 have a:=List.all_eq_true.mp b1i size (List.mem_range.mpr (by omega))
 have a:=List.all_eq_true.mp a n (List.mem_range.mpr (by omega))
 split at a
 ·rename_i c hc
  rw [Bool.and_eq_true] at a
  exact ⟨c,hc,of_decide_eq_true a.1,of_decide_eq_true a.2⟩
 ·have:=of_decide_eq_true a;omega
section
variable {size many:Nat} {r:Nst} (V:VN size many r) (G:GoodN size r) (k:Nat) (S:Sto)
include V G
theorem b9f:rn (k+5) c2e [.int (size:Int),.int (many:Int),r.d] S=.ok (.bl true) S:=by
 have h5:=V.s5
 have m5:=V.m5
 have b5:=a0h h5
 have hl:=V.hl
 refine d9 ?_
 rw [rn,c7 (fd:=z21_F) rfl,b6s,b67]
 refine Ok.first<|Ok.cg (c95 ..)<|Ok.eq (b4g V k S)<|Ok.eq (a:=true) rfl<|Ok.neg (by decide)<|Ok.nxt<|Ok.cg (c7w ..)<|Ok.eq (a7x size (by omega) (k+3) S)<|Ok.eq (v9 (by omega) _)<|Ok.bind ((Ok.loop (n:=tri size) (λi ρ S'=>S'=S/\∃ o4:Option D,ρ=[some (.int (size:Int)),some (.int (many:Int)),some r.d,o4]) (λρ S' _=>u4 _ S') ?_ ⟨rfl,_,rfl⟩).mono ?_)
 ·rintro n ρ S' hn ⟨hS,o4,rfl⟩
  cases hS
  refine ⟨.int (n:Int),_,A0 hn S,rfl,?_⟩
  unfold a5w
  rw [a5u]
  obtain ⟨c,hc,cs,nc⟩:=c1c h5 hn
  obtain ⟨b,hb,g⟩:=G c cs
  rw [nc] at hb
  have el:=d9 (a0i (r:=r) hb (λh hh=>by have:=V.tr h hh;omega) (by omega) (.int (size:Int)) k S)
  rw [a6b h5 hc V.tr] at el
  have e1:U7 r b (λh=>pC h.1 c)=.tup [oD b.1,.bl b.2,.tup ((r.hs.map (w7c c)).map W7.d)]:=by
   have e2:(r.hs.map λh=>j0 (pC h.1 c) h)=(r.hs.map (w7c c)).map W7.d:=by
    rw [List.map_map]
    exact List.map_congr_left λh _=>by rw [<- a24,a2s];rfl
   unfold U7
   rw [e2]
  rw [e1] at el
  exact Ok.first<|Ok.cg (a9t ..)<|Ok.eq el<|Ok.eq (b1x g (by rw [List.length_map];omega) _ (k+2) S)<|Ok.ret ⟨_,.inl rfl,rfl,_,rfl⟩
 ·rintro _ S' ⟨ρ,rfl,hS,o4,rfl⟩
  cases hS
  exact Ok.nxt<|Ok.cg (c8t ..)<|Ok.ret ⟨rfl,rfl⟩
end
end L3.K15
end

section
set_option maxHeartbeats 1000000
namespace L3.K15
open PySem PySem.Spec PyProof.Rows L2 L3.Nt
inductive Fm where
 | at_ (v:Nat) (l:List W7)
 | mark (v:Nat)
 | free
 | closed
 | no (f:Fm)
 | both (f g:Fm)
 | either (f g:Fm)
noncomputable def Fm.d:Fm->D
 | .at_ v l=>.tup [.str "at",.int (v:Int),.tup (l.map W7.d)]
 | .mark v=>.tup [.str "mark",.int (v:Int)]
 | .free=>.tup [.str "free"]
 | .closed=>.tup [.str "closed"]
 | .no f=>.tup [.str "not",f.d]
 | .both f g=>.tup [.str "both",f.d,g.d]
 | .either f g=>.tup [.str "either",f.d,g.d]
noncomputable def Fm.h:Fm->Nat
 | .no f=>f.h+1
 | .both f g=>max f.h g.h+1
 | .either f g=>max f.h g.h+1
 | _=>1
noncomputable def Fm.vs (n:Nat):Fm->Prop
 | .at_ v _=>v<n
 | .mark v=>v<n
 | .no f=>f.vs n
 | .both f g=>f.vs n/\g.vs n
 | .either f g=>f.vs n/\g.vs n
 | _=>True
noncomputable def wAt (ws:List W7) (i:Nat):W7:=ws.getD i .out
noncomputable def Fm.so (mk:Option Nat) (cl:Bool) (ws:List W7) (hs:List Nat):Fm->Bool
 | .at_ v l=>decide (wAt ws (hs.getD v 0)∈l)
 | .mark v=>decide (mk=some (hs.getD v 0))
 | .free=>mk.isNone
 | .closed=>cl
 | .no f=>!f.so mk cl ws hs
 | .both f g=>f.so mk cl ws hs&&g.so mk cl ws hs
 | .either f g=>f.so mk cl ws hs||g.so mk cl ws hs
noncomputable def nN (n:Nat):D:=.int (n:Int)
noncomputable def dec (mk:Option Nat) (cl:Bool) (ws:List W7):D:=.tup [oD mk,.bl cl,.tup (ws.map W7.d)]
theorem in7 (w:W7) (l:List W7) (S:Sto):b8 .In w.d (.tup (l.map W7.d)) S=.ok (.bl (decide (w∈l))) S:=by
 have s:Sml 0 100 w.d:=by cases w <;> exact Sml.w
 have i:=b2n (ws:=l.map W7.s) (s.any (by decide)) (by decide) (λx hx=>by
  obtain ⟨y,_,rfl⟩:=List.mem_map.mp hx
  exact y.asc) S
 rw [<- b14] at i
 rw [i]
 congr 2
 show decide (w.s∈l.map W7.s)=_
 have inj:∀ a b:W7,a.s=b.s->a=b:=by
  intro a b
  cases a <;> cases b <;> first | (intro _;rfl) | (intro h;exact absurd h (by decide +kernel))
 by_cases q:w∈l
 ·rw [decide_eq_true q,decide_eq_true (List.mem_map.mpr ⟨w,q,rfl⟩)]
 ·rw [decide_eq_false q,decide_eq_false λz=>q (by
   obtain ⟨y,hy,e⟩:=List.mem_map.mp z
   rw [inj _ _ e.symm];exact hy)]
theorem b9s (mk:Option Nat) (g:Nat) (S:Sto):b8 .Eq (oD mk) (.int (g:Int)) S=.ok (.bl (decide (mk=some g))) S:=by
 cases mk with
 | none=>rfl
 | some h=>
  show R.ok (D.bl (decide ((h:Int)=(g:Int)))) S=_
  congr 2
  by_cases q:h=g
  ·subst q;rw [decide_eq_true rfl,decide_eq_true rfl]
  ·rw [decide_eq_false (by omega),decide_eq_false (λz=>q (by cases z;rfl))]
theorem a0u {ws:List W7} {i:Nat} (h:i<ws.length):ws[i]?=some (wAt ws i):=by unfold wAt;rw [List.getD_eq_getElem?_getD,List.getElem?_eq_getElem h];rfl
noncomputable def Wn (w v:Str):Prop:=∀ S,b8 .Eq (.str w) (.str v) S=.ok (.bl false) S
noncomputable def Wy (w:Str):Prop:=∀ S,b8 .Eq (.str w) (.str w) S=.ok (.bl true) S
section
variable {mk:Option Nat} {cl:Bool} {ws:List W7} {hs:List Nat} {w:Str} {xs:List D} {k:Nat} {S:Sto} {Q:D->Sto->Prop}
noncomputable def sE (mk:Option Nat) (cl:Bool) (ws:List W7) (hs:List Nat) (w:Str) (xs:List D):L3.Env:=[some (.tup (.str w :: xs)),some (dec mk cl ws),some (.tup (hs.map nN)),some (oD mk),some (.bl cl),some (.tup (ws.map W7.d)),some (.str w)]
noncomputable def sT (k j:Nat) (e:L3.Env):M D:=nxt (evK Rs Γ (rn k) 40) C4 (([nth says_F.body 2,nth says_F.body 3,nth says_F.body 4,nth says_F.body 5,nth says_F.body 6,nth says_F.body 7,nth says_F.body 8]:List Stmt).drop j) endD (.nx e)
theorem a0y (h:Ok (sT k 0 (sE mk cl ws hs w xs)) S Q):Ok (rn (k+1) a3e [.tup (.str w :: xs),dec mk cl ws,.tup (hs.map nN)]) S Q:=by
 rw [rn,c7 (fd:=says_F) rfl,b4u,b1t]
 exact Ok.first<|Ok.cg (c5d ..)<|Ok.eq (a:=.nx [some (.tup (.str w :: xs)),some (dec mk cl ws),some (.tup (hs.map nN)),some (oD mk),some (.bl cl),some (.tup (ws.map W7.d)),none]) rfl<|Ok.nxt<|Ok.cg (c4b ..)<|(Ok.eq (a:=.str w) (S1:=S) (k7 (i:=0) S rfl) (by exact h))
theorem sk2 (n:Wn w "at") (h:Ok (sT k 1 (sE mk cl ws hs w xs)) S Q):Ok (sT k 0 (sE mk cl ws hs w xs)) S Q:=Ok.nxt<|Ok.cg (b2k ..)<|Ok.eq (n S)<|Ok.eq (a:=false) rfl<|Ok.neg (by decide) h
theorem sk3 (n:Wn w "mark") (h:Ok (sT k 2 (sE mk cl ws hs w xs)) S Q):Ok (sT k 1 (sE mk cl ws hs w xs)) S Q:=Ok.nxt<|Ok.cg (b4w ..)<|Ok.eq (n S)<|Ok.eq (a:=false) rfl<|Ok.neg (by decide) h
theorem sk4 (n:Wn w "free") (h:Ok (sT k 3 (sE mk cl ws hs w xs)) S Q):Ok (sT k 2 (sE mk cl ws hs w xs)) S Q:=Ok.nxt<|Ok.cg (b4j ..)<|Ok.eq (n S)<|Ok.eq (a:=false) rfl<|Ok.neg (by decide) h
theorem sk5 (n:Wn w "closed") (h:Ok (sT k 4 (sE mk cl ws hs w xs)) S Q):Ok (sT k 3 (sE mk cl ws hs w xs)) S Q:=Ok.nxt<|Ok.cg (b1y ..)<|Ok.eq (n S)<|Ok.eq (a:=false) rfl<|Ok.neg (by decide) h
theorem sk6 (n:Wn w "not") (h:Ok (sT k 5 (sE mk cl ws hs w xs)) S Q):Ok (sT k 4 (sE mk cl ws hs w xs)) S Q:=Ok.nxt<|Ok.cg (b1r ..)<|Ok.eq (n S)<|Ok.eq (a:=false) rfl<|Ok.neg (by decide) h
theorem sk7 (n:Wn w "both") (h:Ok (sT k 6 (sE mk cl ws hs w xs)) S Q):Ok (sT k 5 (sE mk cl ws hs w xs)) S Q:=Ok.nxt<|Ok.cg (b51 ..)<|Ok.eq (n S)<|Ok.eq (a:=false) rfl<|Ok.neg (by decide) h
end
theorem b0z:Wn "mark" "at":=λS=>by kernel_rfl
theorem b0o:Wn "free" "at":=λS=>by kernel_rfl
theorem a52:Wn "free" "mark":=λS=>by kernel_rfl
theorem a5p:Wn "closed" "at":=λS=>by kernel_rfl
theorem a1s:Wn "closed" "mark":=λS=>by kernel_rfl
theorem a1k:Wn "closed" "free":=λS=>by kernel_rfl
theorem b18:Wn "not" "at":=λS=>by kernel_rfl
theorem a7d:Wn "not" "mark":=λS=>by kernel_rfl
theorem a7p:Wn "not" "free":=λS=>by kernel_rfl
theorem a3x:Wn "not" "closed":=λS=>by kernel_rfl
theorem b02:Wn "both" "at":=λS=>by kernel_rfl
theorem a45:Wn "both" "mark":=λS=>by kernel_rfl
theorem a5i:Wn "both" "free":=λS=>by kernel_rfl
theorem a1j:Wn "both" "closed":=λS=>by kernel_rfl
theorem a6r:Wn "both" "not":=λS=>by kernel_rfl
theorem a46:Wn "either" "at":=λS=>by kernel_rfl
theorem a1u:Wn "either" "mark":=λS=>by kernel_rfl
theorem a1x:Wn "either" "free":=λS=>by kernel_rfl
theorem X6:Wn "either" "closed":=λS=>by kernel_rfl
theorem a31:Wn "either" "not":=λS=>by kernel_rfl
theorem a1p:Wn "either" "both":=λS=>by kernel_rfl
theorem d09:Wy "at":=λS=>by kernel_rfl
theorem c3g:Wy "mark":=λS=>by kernel_rfl
theorem c3u:Wy "free":=λS=>by kernel_rfl
theorem b5v:Wy "closed":=λS=>by kernel_rfl
theorem c9c:Wy "not":=λS=>by kernel_rfl
theorem c3l:Wy "both":=λS=>by kernel_rfl
theorem b78 {mk:Option Nat} {cl:Bool} {ws:List W7} {hs:List Nat} (hh:∀ h∈hs,h<ws.length) (S:Sto):∀ (f:Fm) (k:Nat),f.vs hs.length->f.h<=k->rn k a3e [f.d,dec mk cl ws,.tup (hs.map nN)] S=.ok (.bl (f.so mk cl ws hs)) S:=by
 intro f
 have hv:∀ v,v<hs.length->(hs.map nN)[v]?=some (.int ((hs.getD v 0:Nat):Int))/\(ws.map W7.d)[hs.getD v 0]?=some (wAt ws (hs.getD v 0)).d:=λv hv=>by
  have e:hs[v]?=some (hs.getD v 0):=by rw [List.getD_eq_getElem?_getD,List.getElem?_eq_getElem hv];rfl
  exact ⟨i8 e,i8 (a0u (hh _ (List.mem_of_getElem? e)))⟩
 induction f with
 | at_ v l=>
  intro k vs hk
  obtain ⟨k,rfl⟩:∃ j,k=j+1:=⟨k-1,by have:1<=k:=hk;omega⟩
  obtain ⟨h1,h2⟩:=hv v vs
  refine d9 ?_
  refine a0y ?_
  exact Ok.nxt<|Ok.cg (b2k ..)<|Ok.eq (d09 S)<|Ok.eq (a:=true) rfl<|Ok.pos rfl<|Ok.eq (a:=.int (v:Int)) (k7 (i:=1) S rfl)<|Ok.eq (k7 S h1)<|Ok.eq (k7 S h2)<|Ok.eq (k7 (i:=2) S rfl)<|Ok.eq (in7 _ l S)<|Ok.ret ⟨rfl,rfl⟩
 | mark v=>
  intro k vs hk
  obtain ⟨k,rfl⟩:∃ j,k=j+1:=⟨k-1,by have:1<=k:=hk;omega⟩
  obtain ⟨h1,h2⟩:=hv v vs
  refine d9 ?_
  refine a0y<|sk2 b0z ?_
  exact Ok.nxt<|Ok.cg (b4w ..)<|Ok.eq (c3g S)<|Ok.eq (a:=true) rfl<|Ok.pos rfl<|Ok.eq (a:=.int (v:Int)) (k7 (i:=1) S rfl)<|Ok.eq (k7 S h1)<|Ok.eq (b9s mk _ S)<|Ok.ret ⟨rfl,rfl⟩
 | free=>
  intro k vs hk
  obtain ⟨k,rfl⟩:∃ j,k=j+1:=⟨k-1,by have:1<=k:=hk;omega⟩
  have e:b8 .Is (oD mk) .non S=.ok (.bl mk.isNone) S:=by cases mk <;> rfl
  refine d9 ?_
  refine a0y<|sk2 b0o<|sk3 a52 ?_
  exact Ok.nxt<|Ok.cg (b4j ..)<|Ok.eq (c3u S)<|Ok.eq (a:=true) rfl<|Ok.pos rfl<|Ok.eq e<|Ok.ret ⟨rfl,rfl⟩
 | closed=>
  intro k vs hk
  obtain ⟨k,rfl⟩:∃ j,k=j+1:=⟨k-1,by have:1<=k:=hk;omega⟩
  refine d9 ?_
  refine a0y<|sk2 a5p<|sk3 a1s<|sk4 a1k ?_
  exact Ok.nxt<|Ok.cg (b1y ..)<|Ok.eq (b5v S)<|Ok.eq (a:=true) rfl<|Ok.pos rfl<|Ok.ret ⟨rfl,rfl⟩
 | no f ih=>
  intro k vs hk
  obtain ⟨k,rfl⟩:∃ j,k=j+1:=⟨k-1,by have:f.h+1<=k:=hk;omega⟩
  have a:=ih k vs (by have:f.h+1<=k+1:=hk;omega)
  refine d9 ?_
  refine a0y<|sk2 b18<|sk3 a7d<|sk4 a7p<|sk5 a3x ?_
  exact Ok.nxt<|Ok.cg (b1r ..)<|Ok.eq (c9c S)<|Ok.eq (a:=true) rfl<|Ok.pos rfl<|Ok.eq (k7 (i:=1) S rfl)<|Ok.eq a<|Ok.eq (S1:=S) (a:=f.so mk cl ws hs) rfl<|Ok.ret ⟨rfl,rfl⟩
 | both f g ihf ihg=>
  intro k vs hk
  have hk:max f.h g.h+1<=k:=hk
  obtain ⟨k,rfl⟩:∃ j,k=j+1:=⟨k-1,by omega⟩
  have a:=ihf k vs.1 (by omega)
  have b:=ihg k vs.2 (by omega)
  refine d9 ?_
  refine a0y<|sk2 b02<|sk3 a45<|sk4 a5i<|sk5 a1j<|sk6 a6r ?_
  refine Ok.nxt<|Ok.cg (b51 ..)<|Ok.eq (c3l S)<|Ok.eq (a:=true) rfl<|Ok.pos rfl<|Ok.eq (k7 (i:=1) S rfl)<|Ok.eq a<|Ok.eq (S1:=S) (a:=f.so mk cl ws hs) rfl ?_
  show Ok _ S λd S'=>d=D.bl (f.so mk cl ws hs&&g.so mk cl ws hs)/\S'=S
  cases f.so mk cl ws hs with
  | true=>exact Ok.pos rfl<|Ok.eq (k7 (i:=2) S rfl)<|Ok.eq b<|Ok.ret ⟨rfl,rfl⟩
  | false=>exact Ok.neg (by decide)<|Ok.ret ⟨rfl,rfl⟩
 | either f g ihf ihg=>
  intro k vs hk
  have hk:max f.h g.h+1<=k:=hk
  obtain ⟨k,rfl⟩:∃ j,k=j+1:=⟨k-1,by omega⟩
  have a:=ihf k vs.1 (by omega)
  have b:=ihg k vs.2 (by omega)
  refine d9 ?_
  refine a0y<|sk2 a46<|sk3 a1u<|sk4 a1x<|sk5 X6<|sk6 a31<|sk7 a1p ?_
  refine Ok.nxt<|Ok.cg (c4k ..)<|Ok.eq (k7 (i:=1) S rfl)<|Ok.eq a<|Ok.eq (S1:=S) (a:=f.so mk cl ws hs) rfl ?_
  show Ok _ S λd S'=>d=D.bl (f.so mk cl ws hs||g.so mk cl ws hs)/\S'=S
  cases f.so mk cl ws hs with
  | true=>exact Ok.pos rfl<|Ok.ret ⟨rfl,rfl⟩
  | false=>exact Ok.neg (by decide)<|Ok.eq (k7 (i:=2) S rfl)<|Ok.eq b<|Ok.ret ⟨rfl,rfl⟩
noncomputable def hD (hs:List Nat):D:=.tup (hs.map nN)
noncomputable def nsD (l:List (List Nat)):D:=.lst (l.map hD)
noncomputable def a5o (n:Nat):List (List Nat):=(List.range n).map λi=>[i]
noncomputable def a7k (n:Nat):List (List Nat):=(List.range n).flatMap λi=>((List.range n).filter λj=>decide (i≠j)).map λj=>[i,j]
theorem c0k {n:Nat} (h:n<=5) (k:Nat) (S:Sto):rn (k+1) a8c [.str "each",.int (n:Int)] S=.ok (nsD (a5o n)) S:=by
 rw [rn,c7 (fd:=b53) rfl,a6x]
 have:n=0\/n=1\/n=2\/n=3\/n=4\/n=5:=by omega
 rcases this with rfl | rfl | rfl | rfl | rfl | rfl <;> kernel_rfl
theorem b8p {n:Nat} (h:n<=5) (k:Nat) (S:Sto):rn (k+1) a8c [.str "some",.int (n:Int)] S=.ok (nsD (a5o n)) S:=by
 rw [rn,c7 (fd:=b53) rfl,a6x]
 have:n=0\/n=1\/n=2\/n=3\/n=4\/n=5:=by omega
 rcases this with rfl | rfl | rfl | rfl | rfl | rfl <;> kernel_rfl
theorem b9d {n:Nat} (h:n<=5) (k:Nat) (S:Sto):rn (k+1) a8c [.str "pairs",.int (n:Int)] S=.ok (nsD (a7k n)) S:=by
 rw [rn,c7 (fd:=b53) rfl,a6x]
 have:n=0\/n=1\/n=2\/n=3\/n=4\/n=5:=by omega
 rcases this with rfl | rfl | rfl | rfl | rfl | rfl <;> kernel_rfl
theorem a27 {n:Nat} {hs:List Nat} (h:hs∈a5o n):∃ i,i<n/\hs=[i]:=by
 obtain ⟨i,hi,rfl⟩:=List.mem_map.mp h
 exact ⟨i,List.mem_range.mp hi,rfl⟩
theorem a42 {n:Nat} {hs:List Nat} (h:hs∈a7k n):∃ i j,i<n/\j<n/\i≠j/\hs=[i,j]:=by
 obtain ⟨i,hi,h⟩:=List.mem_flatMap.mp h
 obtain ⟨j,hj,rfl⟩:=List.mem_map.mp h
 obtain ⟨a,b⟩:=List.mem_filter.mp hj
 exact ⟨i,j,List.mem_range.mp hi,List.mem_range.mp a,of_decide_eq_true b,rfl⟩
theorem b2y {n i:Nat} (h:i<n):[i]∈a5o n:=List.mem_map.mpr ⟨i,List.mem_range.mpr h,rfl⟩
theorem c49 {n:Nat} (h:n<=5):(a5o n).length<=25/\(a7k n).length<=25:=by
 have:n=0\/n=1\/n=2\/n=3\/n=4\/n=5:=by omega
 rcases this with rfl | rfl | rfl | rfl | rfl | rfl <;> decide +kernel
theorem b4v {mk:Option Nat} {cl:Bool} {ws:List W7} {w:Str} {q:Bool} {f:Fm} {ls:List (List Nat)} {n k:Nat} {S:Sto} (hq:b8 .Eq (.str w) (.str "some") S=.ok (.bl q) S) (hm:rn (k+1) a8c [.str w,.int (ws.length:Int)] S=.ok (nsD ls) S) (hl:ls.length<=25) (hs:∀ hs∈ls,hs.length=n/\∀ i∈hs,i<ws.length) (fv:f.vs n) (fh:f.h<=k+1):rn (k+2) V8 [dec mk cl ws,.tup [.str w,f.d]] S=.ok (.bl (if q=true then ls.any (λhs=>f.so mk cl ws hs) else ls.all λhs=>f.so mk cl ws hs)) S:=by
 refine d9 ?_
 rw [rn,c7 (fd:=z39_F) rfl,b60,c0a]
 have l1:j8 (.tup (ws.map W7.d)) S=.ok (.int (ws.length:Int)) S:=(u6 _ S).trans (by rw [List.length_map])
 have c:=i7 (l:=ls) (h:=hD) (g:=λhs=>D.bl (f.so mk cl ws hs)) (p:=λ_=>true) (t:=λ_=>ret true) (f:=λd1=>bind (rn (k+1) a3e [f.d,dec mk cl ws,d1]) λx6=>ret x6) (S:=S) (by rw [sizeLine_eq];omega) (λ_ _=>rfl) (λa ha _=>by
  obtain ⟨e,i⟩:=hs a ha
  exact b7 (b78 i S f (k+1) (by rw [e];exact fv) fh))
 rw [List.filter_eq_self.mpr (λ_ _=>rfl),show (ls.map λhs=>D.bl (f.so mk cl ws hs))=(ls.map λhs=>f.so mk cl ws hs).map D.bl by rw [List.map_map];rfl] at c
 refine Ok.first<|Ok.cg (c68 ..)<|Ok.eq (a:=.nx [some (dec mk cl ws),some (.tup [.str w,f.d]),some (.str w),some f.d,none]) rfl ?_
 refine Ok.nxt<|Ok.cg (c7q ..)<|nx_bind<|Ok.eq (a:=.tup (ws.map W7.d)) (k7 (i:=2) S rfl)<|Ok.eq l1<|Ok.eq hm<|Ok.eq (S1:=S) (a:=(N7 (ls.map hD),(ls.map hD).length+1)) rfl ?_
 rw [List.length_map]
 refine Ok.of c ?_
 refine Ok.nxt<|Ok.cg (c9r ..)<|Ok.eq hq<|Ok.eq (i6 _ _) ?_
 cases q with
 | true=>
  refine Ok.pos rfl<|Ok.eq (L3.any_ok _ S)<|Ok.ret ⟨?_,rfl⟩
  rw [List.any_map];rfl
 | false=>
  refine Ok.neg (by decide)<|Ok.eq (L3.all_ok _ S)<|Ok.ret ⟨?_,rfl⟩
  rw [List.all_map];rfl
section
variable {mk:Option Nat} {cl:Bool} {ws:List W7} {f:Fm} {k:Nat} {S:Sto} (h5:ws.length<=5) (fh:f.h<=k+1)
include h5 fh
theorem c5e (fv:f.vs 1) (a:∀ i,i<ws.length->f.so mk cl ws [i]=true):rn (k+2) V8 [dec mk cl ws,.tup [.str "each",f.d]] S=.ok (.bl true) S:=by
 rw [b4v (q:=false) (n:=1) (by kernel_rfl) (c0k h5 k S) (c49 h5).1 (λhs hh=>by
  obtain ⟨i,hi,rfl⟩:=a27 hh
  exact ⟨rfl,λj hj=>by rw [List.mem_singleton.mp hj];exact hi⟩) fv fh,if_neg (by decide),List.all_eq_true.mpr λhs hh=>by
  obtain ⟨i,hi,rfl⟩:=a27 hh
  exact a i hi]
theorem d2a (fv:f.vs 1) (a:∃ i,i<ws.length/\f.so mk cl ws [i]=true):rn (k+2) V8 [dec mk cl ws,.tup [.str "some",f.d]] S=.ok (.bl true) S:=by
 rw [b4v (q:=true) (n:=1) (by kernel_rfl) (b8p h5 k S) (c49 h5).1 (λhs hh=>by
  obtain ⟨i,hi,rfl⟩:=a27 hh
  exact ⟨rfl,λj hj=>by rw [List.mem_singleton.mp hj];exact hi⟩) fv fh,if_pos rfl,List.any_eq_true.mpr (by
  obtain ⟨i,hi,e⟩:=a
  exact ⟨_,b2y hi,e⟩)]
theorem c9d (fv:f.vs 2) (a:∀ i j,i<ws.length->j<ws.length->i≠j->f.so mk cl ws [i,j]=true):rn (k+2) V8 [dec mk cl ws,.tup [.str "pairs",f.d]] S=.ok (.bl true) S:=by
 rw [b4v (q:=false) (n:=2) (by kernel_rfl) (b9d h5 k S) (c49 h5).2 (λhs hh=>by
  obtain ⟨i,j,hi,hj,_,rfl⟩:=a42 hh
  refine ⟨rfl,λx hx=>?_⟩
  rcases List.mem_cons.mp hx with rfl | hx
  ·exact hi
  ·rw [List.mem_singleton.mp hx];exact hj) fv fh,if_neg (by decide),List.all_eq_true.mpr λhs hh=>by
  obtain ⟨i,j,hi,hj,n,rfl⟩:=a42 hh
  exact a i j hi hj n]
end
noncomputable def P2:Fm:=.at_ 0 [.look,.holds,.right,.down]
noncomputable def a7t:Fm:=.both (.mark 1) (.at_ 1 [.close,.look])
noncomputable def f1:Fm:=.either (.no P2) .closed
noncomputable def f2:Fm:=.either (.no .closed) (.at_ 0 [.look,.holds,.down])
noncomputable def f3:Fm:=.either (.at_ 0 [.out]) (.no .free)
noncomputable def f4:Fm:=.either (.no (.mark 0)) (.no (.at_ 0 [.out,.down]))
noncomputable def f5:Fm:=.either (.no (.at_ 0 [.holds])) (.no a7t)
noncomputable def f6:Fm:=.no (.both (.at_ 0 [.holds]) (.at_ 1 [.holds]))
noncomputable def six:List D:=[.tup [.str "each",f1.d],.tup [.str "some",f2.d],.tup [.str "each",f3.d],.tup [.str "each",f4.d],.tup [.str "pairs",f5.d],.tup [.str "pairs",f6.d]]
theorem Q0 (S:Sto) (l:List D) (d:D) (h:l.length<10):a1i (.ref S.length) [d] (S++[.lst l])=.ok .non (S++[.lst (l++[d])]):=by
 have e:(S++[O.lst l])[S.length]?=some (.lst l):=by simp
 simp only [a1i,e]
 rw [if_pos (by rw [sizeLine_eq];omega)]
 congr 1
 rw [List.set_append]
 simp
theorem Q1 (S:Sto) (l:List D):lstOf (.ref S.length) (S++[.lst l])=.ok l (S++[.lst l]):=by
 have e:(S++[O.lst l])[S.length]?=some (.lst l):=by simp
 simp only [lstOf,e]
theorem c53 (k:Nat) (S:Sto):rn (k+1) c05 [] S=.ok (.ref S.length) (S++[.lst six]):=by
 suffices h:Ok (rn (k+1) c05 []) S λd S'=>d=.ref S.length/\S'=S++[.lst six] by
  obtain ⟨d,S',e,rfl,rfl⟩:=h
  exact e
 rw [rn,c7 (fd:=c5l) rfl,c4y]
 have l1:=Q0 S [.tup [.str "each",f1.d]] (.tup [.str "some",f2.d]) (by decide)
 have l2:=Q0 S [.tup [.str "each",f1.d],.tup [.str "some",f2.d]] (.tup [.str "each",f3.d]) (by decide)
 have l3:=Q0 S [.tup [.str "each",f1.d],.tup [.str "some",f2.d],.tup [.str "each",f3.d]] (.tup [.str "each",f4.d]) (by decide)
 have l4:=Q0 S [.tup [.str "each",f1.d],.tup [.str "some",f2.d],.tup [.str "each",f3.d],.tup [.str "each",f4.d]] (.tup [.str "pairs",f5.d]) (by decide)
 have l5:=Q0 S [.tup [.str "each",f1.d],.tup [.str "some",f2.d],.tup [.str "each",f3.d],.tup [.str "each",f4.d],.tup [.str "pairs",f5.d]] (.tup [.str "pairs",f6.d]) (by decide)
 refine Ok.eq (a:=.ref S.length) (S1:=S++[.lst [.tup [.str "each",f1.d]]]) rfl ?_
 refine Ok.eq (Q1 ..)<|Ok.eq l1 ?_
 refine Ok.eq (Q1 ..)<|Ok.eq l2 ?_
 refine Ok.eq (Q1 ..)<|Ok.eq l3 ?_
 refine Ok.eq (Q1 ..)<|Ok.eq l4 ?_
 refine Ok.eq (Q1 ..)<|Ok.eq l5 ?_
 exact Ok.ret ⟨rfl,rfl⟩
theorem b2o {ws:List W7} {i:Nat} (h:i<ws.length):wAt ws i∈ws:=List.mem_of_getElem? (a0u h)
theorem b87 {ws:List W7} {i j:Nat} (hi:ws[i]?=some .holds) (hj:ws[j]?=some .holds) (n:i≠j):1<ws.countP λw=>decide (w=.holds):=by
 have a:=a70 (y:=.out) hi λw=>decide (w=.holds)
 rw [if_pos (by decide),if_neg (by decide)] at a
 have b:0<(ws.set i .out).countP λw=>decide (w=.holds):=List.countP_pos_iff.mpr ⟨.holds,List.mem_of_getElem? (i:=j) (by rw [List.getElem?_set_ne n];exact hj),by decide⟩
 omega
section
variable {mk:Option Nat} {cl:Bool} {ws:List W7} (G:GoodL mk cl ws) (h1:1<=ws.length) (h5:ws.length<=5)
include G h1 h5
theorem c50 (k:Nat) (S:Sto):∀ d∈six,rn (k+6) V8 [dec mk cl ws,d] S=.ok (.bl true) S:=by
 have s1:∀ i,i<ws.length->f1.so mk cl ws [i]=true:=λi hi=>by
  show (!decide (wAt ws i∈[.look,.holds,.right,.down])||cl)=true
  cases cl with
  | true=>simp
  | false=>
   have:=G.g1 rfl _ (b2o hi)
   generalize wAt ws i=w at this
   cases w <;> first | rfl | cases this
 have s2:∃ i,i<ws.length/\f2.so mk cl ws [i]=true:=by
  show ∃ i,i<ws.length/\(!cl||decide (wAt ws i∈[.look,.holds,.down]))=true
  cases cl with
  | false=>exact ⟨0,h1,rfl⟩
  | true=>
   obtain ⟨w,hw,e⟩:=G.g2 rfl
   obtain ⟨i,hi,ei⟩:=List.mem_iff_getElem.mp hw
   refine ⟨i,hi,?_⟩
   have:wAt ws i=w:=by
    have:=a0u hi
    rw [List.getElem?_eq_getElem hi,ei] at this
    cases this;rfl
   rw [this]
   cases w <;> first | rfl | cases e
 have s3:∀ i,i<ws.length->f3.so mk cl ws [i]=true:=λi hi=>by
  show (decide (wAt ws i∈[.out])||!mk.isNone)=true
  cases mk with
  | some g=>simp
  | none=>rw [G.g3 rfl _ (b2o hi)];rfl
 have s4:∀ i,i<ws.length->f4.so mk cl ws [i]=true:=λi hi=>by
  show (!decide (mk=some i)||!decide (wAt ws i∈[.out,.down]))=true
  by_cases q:mk=some i
  ·obtain ⟨w,hw,n1,n2⟩:=G.g4 i q
   rw [a0u hi] at hw
   cases hw
   rw [decide_eq_false (p:=wAt ws i∈[.out,.down]) (by simp [n1,n2])]
   simp
  ·rw [decide_eq_false q];rfl
 have s5:∀ i j,i<ws.length->j<ws.length->i≠j->f5.so mk cl ws [i,j]=true:=λi j hi hj n=>by
  show (!decide (wAt ws i∈[.holds])||!(decide (mk=some j)&&decide (wAt ws j∈[.close,.look])))=true
  by_cases q:wAt ws i=.holds
  ·by_cases q2:mk=some j
   ·by_cases q3:wAt ws j∈[.close,.look]
    ·have z:=G.g5 j q2 (by
      rw [a0u hj]
      rcases List.mem_cons.mp q3 with e | e
      ·exact .inl (congrArg some e)
      ·exact .inr (congrArg some (List.mem_singleton.mp e))) _ (b2o hi)
     exact absurd q z
    ·rw [decide_eq_false q3];simp
   ·rw [decide_eq_false q2];simp
  ·rw [decide_eq_false (p:=wAt ws i∈[.holds]) (by simp [q])];rfl
 have s6:∀ i j,i<ws.length->j<ws.length->i≠j->f6.so mk cl ws [i,j]=true:=λi j hi hj n=>by
  show (!(decide (wAt ws i∈[.holds])&&decide (wAt ws j∈[.holds])))=true
  by_cases q:wAt ws i=.holds
  ·by_cases q2:wAt ws j=.holds
   ·have:=b87 (by rw [a0u hi,q]) (by rw [a0u hj,q2]) n
    have:=G.g6
    omega
   ·rw [decide_eq_false (p:=wAt ws j∈[.holds]) (by simp [q2])];simp
  ·rw [decide_eq_false (p:=wAt ws i∈[.holds]) (by simp [q])];rfl
 intro d hd
 have h:d=.tup [.str "each",f1.d]\/d=.tup [.str "some",f2.d]\/d=.tup [.str "each",f3.d]\/d=.tup [.str "each",f4.d]\/d=.tup [.str "pairs",f5.d]\/d=.tup [.str "pairs",f6.d]:=by
  unfold six at hd
  simpa using hd
 have fh:∀ f:Fm,f.h<=5->f.h<=k+4+1:=λf h=>by omega
 rcases h with rfl | rfl | rfl | rfl | rfl | rfl
 ·exact c5e (k:=k+4) h5 (fh _ (by decide)) (by simp [Fm.vs,f1,f2,f3,f4,f5,f6,P2,a7t]) s1
 ·exact d2a (k:=k+4) h5 (fh _ (by decide)) (by simp [Fm.vs,f1,f2,f3,f4,f5,f6,P2,a7t]) s2
 ·exact c5e (k:=k+4) h5 (fh _ (by decide)) (by simp [Fm.vs,f1,f2,f3,f4,f5,f6,P2,a7t]) s3
 ·exact c5e (k:=k+4) h5 (fh _ (by decide)) (by simp [Fm.vs,f1,f2,f3,f4,f5,f6,P2,a7t]) s4
 ·exact c9d (k:=k+4) h5 (fh _ (by decide)) (by simp [Fm.vs,f1,f2,f3,f4,f5,f6,P2,a7t]) s5
 ·exact c9d (k:=k+4) h5 (fh _ (by decide)) (by simp [Fm.vs,f1,f2,f3,f4,f5,f6,P2,a7t]) s6
theorem a82 {x:W7} (hx:x=.right\/x=.down) (ne:(ws.filter λw=>decide (w≠.out))≠[]):((ws.filter λw=>decide (w≠.out)).countP λw=>decide (w=x))≠(ws.filter λw=>decide (w≠.out)).length:=by
 intro e
 have al:∀ w∈ws,w≠.out->w=x:=λw hw n=>of_decide_eq_true (List.countP_eq_length.mp e w (List.mem_filter.mpr ⟨hw,decide_eq_true n⟩))
 obtain ⟨w,hw⟩:=List.exists_mem_of_ne_nil _ ne
 obtain ⟨hw,n⟩:=List.mem_filter.mp hw
 have n:=of_decide_eq_true n
 have nm:mk≠none:=λz=>n (G.g3 z w hw)
 obtain ⟨g,eg⟩:∃ g,mk=some g:=by
  cases mk with
  | none=>exact absurd rfl nm
  | some g=>exact ⟨g,rfl⟩
 obtain ⟨v,hv,v1,v2⟩:=G.g4 g eg
 have hv:=List.mem_of_getElem? hv
 have ev:=al v hv v1
 rcases hx with rfl | rfl
 ·have ct:cl=true:=by
   cases cl with
   | true=>rfl
   | false=>
    have:=G.g1 rfl v hv
    rw [ev] at this;cases this
  obtain ⟨u,hu,eu⟩:=G.g2 ct
  have:=al u hu (λz=>by rw [z] at eu;cases eu)
  rw [this] at eu;cases eu
 ·exact v2 ev
theorem b6h (hm:∀ g,mk=some g->g<ws.length) (k:Nat) (S:Sto):rn (k+4) c2l [.int (ws.length:Int),dec mk cl ws] S=.ok (.bl true) S:=by
 have e0:rn (k+3) U1 [dec mk cl ws,.int 3] S=.ok (.bl true) S:=O9 [oD mk,.bl cl,.tup (ws.map W7.d)] 3 (k+2) S
 have ew:rn (k+3) c9e [.int (ws.length:Int),.tup (ws.map W7.d)] S=.ok (.bl true) S:=by
  refine d9 ?_
  have e1:rn (k+2) U1 [.tup (ws.map W7.d),.int (ws.length:Int)] S=.ok (.bl true) S:=by
   rw [O9,List.length_map,decide_eq_true rfl]
  rw [rn,c7 (fd:=c4z) rfl,c21]
  refine Ok.eq e1<|Ok.eq (a:=true) rfl<|Ok.pos rfl<|Ok.cg (V4 ..)<|Ok.eq (R7 (l:=ws) (h:=W7.d) (U0 (by omega)) λw _=>?_)<|Ok.ret ⟨rfl,rfl⟩
  refine (b7 (in7 w [.out,.ask,.close,.look,.holds,.right,.down] S)).trans ?_
  cases w <;> rfl
 refine d9 ?_
 rw [rn,c7 (fd:=z14_F) rfl,b7m,b9u]
 refine Ok.first<|Ok.cg (c8z ..)<|Ok.eq e0<|Ok.eq (a:=true) rfl<|Ok.neg (by decide) ?_
 refine Ok.nxt<|Ok.cg (c61 ..)<|Ok.eq (a:=.nx [some (.int (ws.length:Int)),some (dec mk cl ws),some (oD mk),some (.bl cl),some (.tup (ws.map W7.d))]) rfl ?_
 exact Ok.nxt<|Ok.cg (d0r ..)<|Ok.eq (a8q hm (k+1) S)<|Ok.eq (a:=true) rfl<|Ok.pos rfl<|Ok.eq (a:=.bl true) rfl<|Ok.eq (a:=true) rfl<|Ok.pos rfl<|Ok.eq ew<|Ok.ret ⟨rfl,rfl⟩
end
theorem c1h (x:W7) (l:List W7) (S:Sto):countD (.lst (l.map W7.d)) [.str x.s] S=.ok (.int ((l.countP λw=>decide (w=x):Nat):Int)) S:=by
 show (match u8 (l.map W7.d) with
  | some ys=>ret (D.int (countIn (.str x.s) (ys.map PyData.str)))
  | none=>bad) S=_
 rw [a2x]
 show R.ok (D.int (countIn (.str x.s) ((l.map W7.s).map PyData.str))) S=_
 rw [a7m]
theorem c3q (w:W7) (S:Sto):b8 .NotEq w.d (.str "out") S=.ok (.bl (decide (w≠.out))) S:=by cases w <;> kernel_rfl
theorem c1e (S:Sto):b8 .IsNot (.bl true) (.bl true) S=.ok (.bl false) S:=by kernel_rfl
theorem c58 (S:Sto):b8 .In (.bl false) (.lst (six.map λ_=>.bl true)) S=.ok (.bl false) S:=by kernel_rfl
theorem b7s {S:Sto} {q:Nat} {ds:List D} (e:S[q]?=some (.lst ds)):y9 (.ref q) S=.ok (b1d q,ds.length+1) S:=by simp only [y9,e]
theorem c5j {size:Nat} (h:size<=5) (S:Sto):G1 (.int ((size:Int) * ((size:Int)+1))) (.int 2) S=.ok (.int (tri size:Int)) S:=by
 have:size=0\/size=1\/size=2\/size=3\/size=4\/size=5:=by omega
 rcases this with rfl | rfl | rfl | rfl | rfl | rfl <;> kernel_rfl
theorem b48 {size many:Nat} {r:Nst} (V:VN size many r) (G:GoodN size r) (m0:0<many) (k:Nat) (S:Sto):rn (k+7) c1x [.int (size:Int),r.d] S=.ok (.bl true) (S++[.lst six]):=by
 suffices h:Ok (rn (k+7) c1x [.int (size:Int),r.d]) S λd S'=>d=.bl true/\S'=S++[.lst six] by
  obtain ⟨d,S',e,rfl,rfl⟩:=h
  exact e
 have h5:=V.s5
 have m5:=V.m5
 have b5:=a0h h5
 have hl:=V.hl
 rw [rn,c7 (fd:=z4_F) rfl,c51,c4e]
 refine Ok.first<|Ok.cg (d00 ..)<|Ok.eq (c53 (k+5) S) ?_
 have eq:(S++[O.lst six])[S.length]?=some (.lst six):=by simp
 generalize hT:(S++[O.lst six])=T at eq
 generalize S.length=q at eq
 refine Ok.nxt<|Ok.cg (d2h ..)<|Ok.eq (S1:=T) (a:=.int ((size:Int)+1)) rfl<|Ok.eq (T4 (.inl ⟨by omega,by omega⟩) T)<|Ok.eq (c5j h5 T) ?_
 refine Ok.eq (v9 (by omega) _)<|Ok.bind ((Ok.loop (n:=tri size) (λi ρ S'=>S'=T/\∃ o4 o5 o6:Option D,ρ=[some (.int (size:Int)),some r.d,some (.ref q),o4,o5,o6]) (λρ S' _=>u4 _ S') ?_ ⟨rfl,_,_,_,rfl⟩).mono ?_)
 ·rintro n ρ S' hn ⟨hS,o4,o5,o6,rfl⟩
  subst hS
  refine ⟨.int (n:Int),_,A0 hn S',rfl,?_⟩
  unfold a8k
  rw [a7f]
  obtain ⟨c,hc,cs,nc⟩:=c1c h5 hn
  obtain ⟨b,hb,g⟩:=G c cs
  rw [nc] at hb
  have el:=d9 (a0i (r:=r) hb (λh hh=>by have:=V.tr h hh;omega) (by omega) (.int (size:Int)) (k+2) S')
  rw [a6b h5 hc V.tr] at el
  have e1:U7 r b (λh=>pC h.1 c)=.tup [oD b.1,.bl b.2,.tup ((r.hs.map (w7c c)).map W7.d)]:=by
   have e2:(r.hs.map λh=>j0 (pC h.1 c) h)=(r.hs.map (w7c c)).map W7.d:=by
    rw [List.map_map]
    exact List.map_congr_left λh _=>by rw [<- a24,a2s];rfl
   unfold U7
   rw [e2]
  rw [e1] at el
  have hbm:=V.mg b (List.mem_of_getElem? hb)
  have wl:(r.hs.map (w7c c)).length=many:=by rw [List.length_map,hl]
  generalize r.hs.map (w7c c)=ws at el g wl
  obtain ⟨mk,cl⟩:=b
  have lh:j8 (.tup (r.hs.map hdD)) S'=.ok (.int (ws.length:Int)) S':=(u6 _ S').trans (by rw [List.length_map,hl,wl])
  have cf:=i7 (l:=ws) (h:=W7.d) (g:=W7.d) (p:=λw=>decide (w≠.out)) (t:=λd1=>bind (b8 .NotEq d1 (.str "out")) λx4=>bind (asB x4) λz5=>ret z5) (f:=λd1=>ret d1) (S:=S') (U0 (by omega)) (λw _=>by rw [b7 (c3q w S')];exact b7 (i6 _ _)) (λ_ _ _=>rfl)
  have c6:=Q3 (src:=b1d q) (l:=six) (h:=λd=>d) (g:=λ_=>D.bl true) (p:=λ_=>true) (t:=λ_=>ret true) (f:=λd6=>bind (rn (k+6) V8 [dec mk cl ws,d6]) λx8=>ret x8) (S:=S') (λi=>by rw [List.map_id'];exact c7u eq i) (by rw [sizeLine_eq];decide) (λ_ _=>rfl) (λd hd _=>b7 (c50 g (by omega) (by omega) k S' d hd))
  rw [List.filter_eq_self.mpr (λ_ _=>rfl)] at c6
  refine Ok.first<|Ok.cg (b3z ..)<|Ok.eq el ?_
  refine Ok.nxt<|Ok.cg (b1q ..)<|nx_bind<|Ok.eq (a:=.tup (ws.map W7.d)) (k7 (i:=2) S' rfl)<|Ok.eq (T8 _ S') ?_
  rw [List.length_map]
  refine Ok.of cf ?_
  refine Ok.nxt<|Ok.cg (b17 ..)<|Ok.eq (a:=.tup (r.hs.map hdD)) (k7 (i:=1) S' rfl)<|Ok.eq lh<|Ok.eq (b6h g (by omega) (by omega) (λx hx=>by rw [wl];exact hbm x hx) (k+2) S')<|Ok.eq (c1e _)<|Ok.eq (a:=false) rfl<|Ok.neg (by decide) ?_
  refine nx_bind<|Ok.eq (b7s eq) ?_
  refine Ok.of c6 ?_
  refine Ok.eq (c58 S')<|Ok.eq (a:=false) rfl<|Ok.neg (by decide) ?_
  have na1:=a82 g (by omega) (by omega) (x:=.right) (.inl rfl)
  have na2:=a82 g (by omega) (by omega) (x:=.down) (.inr rfl)
  generalize (ws.filter λw=>decide (w≠.out))=l at na1 na2
  refine Ok.nxt<|Ok.cg (b4l ..)<|Ok.eq (a9a l S').2<|Ok.eq (i6 _ _)<|Ok.ite (λz=>?_) λ_=>Ok.ret ⟨_,.inl rfl,rfl,_,_,_,rfl⟩
  have ne:l≠[]:=λy=>by rw [y] at z;cases z
  have n1:=na1 ne
  have n2:=na2 ne
  have ll:j8 (.lst (l.map W7.d)) S'=.ok (.int (l.length:Int)) S':=(a18 _ S').trans (by rw [List.length_map])
  refine Ok.eq (a:=l.map W7.d) rfl<|Ok.eq (c1h .right l S')<|Ok.eq ll<|Ok.eq (O2 _ _ _)<|Ok.eq (i6 _ _)<|Ok.neg (by rw [decide_eq_false (by omega)];decide) ?_
  exact Ok.eq (a:=l.map W7.d) rfl<|Ok.eq (c1h .down l S')<|Ok.eq ll<|Ok.eq (O2 _ _ _)<|Ok.eq (i6 _ _)<|Ok.neg (by rw [decide_eq_false (by omega)];decide)<|Ok.ret ⟨_,.inl rfl,rfl,_,_,_,rfl⟩
 ·rintro _ S' ⟨ρ,rfl,hS,o4,o5,o6,rfl⟩
  exact Ok.nxt<|Ok.cg (d13 ..)<|Ok.ret ⟨rfl,hS⟩
end L3.K15
end
section
set_option maxHeartbeats 1000000
namespace L3.Nt
open PySem PySem.Spec PyProof.Rows L2
theorem c6j {h:Hnd} (ht:h.1.length<=5):Sml 2 900 (hdD h):=by
 obtain ⟨t,w⟩:=h
 have a:Sml 1 400 (trD t):=(Sml.tup (n:=0) (N:=60) (m:=5) (.map λb _=>by cases b <;> exact Sml.w) (by rw [List.length_map];exact ht)).up
 have b:Sml 1 400 w.d:=by cases w <;> exact Sml.w
 exact (Sml.tup (n:=1) (N:=400) (m:=2) (.cons a (.cons b .nil)) (Nat.le_refl _)).mono (by decide) (by decide)
theorem b96 {h:Hnd} (ht:h.1.length<=5) (S:Sto):b8 .NotEq (hdD h) (.tup [(.tup []),(.str "out")]) S=.ok (.bl (A3 h)) S:=by
 have s:=c6j ht
 have dp:=s.dp
 have hd:PyData.depth (.tuple [.tuple [],.str "out"])<=60:=by simp [PyData.depth,PyData.depthAll]
 show eqP true (hdD h) (.tup [(.tup []),(.str "out")]) S=_
 unfold eqP
 rw [a3v S (hdD h) 64 s.pl (by omega)]
 show (if PyData.canLay0 (py (hdD h))=true/\PyData.canLay0 (.tuple [.tuple [],.str "out"])=true/\min (PyData.depth (py (hdD h))) (PyData.depth (.tuple [.tuple [],.str "out"]))<=60 then ret (D.bl (!PyData.eqv (py (hdD h)) (.tuple [.tuple [],.str "out"]))) else bad) S=_
 rw [if_pos ⟨a7a _ s.pl,by decide +kernel,by omega⟩]
 obtain ⟨t,w⟩:=h
 cases t with
 | nil=>cases w <;> rfl
 | cons b t=>rfl
end L3.Nt
namespace L3.K15
open PySem PySem.Spec PyProof.Rows L2 L3.Nt
noncomputable def cD (h:Hnd):D:=.tup [.int (dn h.1:Int),.int (rt h.1:Int)]
theorem b8n (h:Hnd) (k:Nat) (S:Sto):rn (k+2) b1n [hdD h] S=.ok (cD h) S:=by
 refine d9 ?_
 rw [rn,c7 (fd:=b45) rfl,b8x]
 exact Ok.eq (a:=trD h.1) rfl<|Ok.eq (V9 h.1 k S)<|Ok.ret ⟨rfl,rfl⟩
theorem d1l (a:Int) (S:Sto):b4e [.int 0,.int a] S=.ok (.int (if a > 0 then a else 0)) S:=rfl
noncomputable def c5t (r:Nst) (row col:Nat):List Hnd:=(r.hs.filter A3).filter λh=>decide (row<=dn h.1)&&decide (col<=rt h.1)
theorem b3f (r:Nst) (row col:Nat):(c5t r row col).length=cor r row col:=by
 unfold c5t cor
 rw [List.filter_filter,List.countP_eq_length_filter]
 congr 2
 funext h
 rw [Bool.and_comm]
theorem b4m (r:Nst):(r.hs.filter A3).length=cor r 0 0:=by
 unfold cor
 rw [List.countP_eq_length_filter]
 congr 2
 funext h
 simp
theorem a6j {size many:Nat} {r:Nst} (V:VN size many r) (G:GoodN size r) (k:Nat) (S:Sto):rn (k+3) c4l [.int (size:Int),r.d] S=.ok (.bl true) S:=by
 have h5:=V.s5
 have m5:=V.m5
 have hl:=V.hl
 refine d9 ?_
 rw [rn,c7 (fd:=z24_F) rfl,b9y,b9h]
 have c:=i7 (l:=r.hs) (h:=hdD) (g:=hdD) (p:=A3) (t:=λd1=>bind (b8 .NotEq d1 (.tup [(.tup []),(.str "out")])) λx4=>bind (asB x4) λz5=>ret z5) (f:=λd1=>ret d1) (S:=S) (U0 (by omega)) (λh hh=>by
  rw [b7 (b96 (by have:=V.tr h hh;omega) S)]
  exact b7 (i6 _ _)) (λ_ _ _=>rfl)
 have bl:(r.hs.filter A3).length<=5:=by have:=List.length_filter_le A3 r.hs;omega
 refine Ok.first<|Ok.cg (c9k ..)<|nx_bind<|Ok.eq (a:=.tup (r.hs.map hdD)) (k7 (i:=1) S rfl)<|Ok.eq (T8 _ S) ?_
 rw [List.length_map]
 refine Ok.of c ?_
 refine Ok.nxt<|Ok.cg (c6w ..)<|Ok.eq (v9 (by omega) _)<|Ok.bind ((Ok.loop (n:=size) (λi ρ S'=>S'=S/\∃ o4 o5 o6:Option D,ρ=[some (.int (size:Int)),some r.d,some (.lst ((r.hs.filter A3).map hdD)),o4,o5,o6]) (λρ S' _=>u4 _ S') ?_ ⟨rfl,_,_,_,rfl⟩).mono ?_)
 ·rintro row ρ S' hrow ⟨hS,o4,o5,o6,rfl⟩
  subst hS
  refine ⟨.int (row:Int),_,A0 hrow S',rfl,?_⟩
  unfold a4j
  rw [a5f]
  refine Ok.first<|Ok.cg (b01 ..)<|Ok.eq (a3o (by omega) S')<|Ok.eq (v9 (by omega) _)<|Ok.bind ((Ok.loop (n:=size-row) (λi ρ S1=>S1=S'/\∃ o5 o6:Option D,ρ=[some (.int (size:Int)),some r.d,some (.lst ((r.hs.filter A3).map hdD)),some (.int (row:Int)),o5,o6]) (λρ S' _=>u4 _ S') ?_ ⟨rfl,_,_,rfl⟩).mono ?_)
  ·rintro col ρ S1 hcol ⟨hS,o5,o6,rfl⟩
   subst hS
   refine ⟨.int (col:Int),_,A0 hcol S1,rfl,?_⟩
   unfold R8
   rw [X8]
   have c1:=i7 (l:=r.hs.filter A3) (h:=hdD) (g:=cD) (p:=λ_=>true) (t:=λ_=>ret true) (f:=λd1=>bind (rn (k+2) b1n [d1]) λx3=>ret x3) (S:=S1) (U0 (by omega)) (λ_ _=>rfl) (λh _ _=>b7 (b8n h k S1))
   rw [List.filter_eq_self.mpr (λ_ _=>rfl)] at c1
   have c2:=i7 (l:=r.hs.filter A3) (h:=cD) (g:=cD) (p:=λh=>decide (row<=dn h.1)&&decide (col<=rt h.1)) (t:=λd1=>bind (ixD d1 (.int 0)) λx3=>bind (b8 .GtE x3 (.int (row:Int))) λx4=>bind (asB x4) λz5=>if z5=true then (bind (ixD d1 (.int 1)) λx6=>bind (b8 .GtE x6 (.int (col:Int))) λx7=>bind (asB x7) λz8=>ret z8) else (ret false)) (f:=λd1=>ret d1) (S:=S1) (U0 (by omega)) (λh _=>by
    refine d9 ?_
    have e1:decide ((row:Int)<=(dn h.1:Int))=decide (row<=dn h.1):=by rw [decide_eq_decide];omega
    have e2:decide ((col:Int)<=(rt h.1:Int))=decide (col<=rt h.1):=by rw [decide_eq_decide];omega
    refine Ok.eq (a:=.int (dn h.1:Int)) (k7 (i:=0) S1 rfl)<|Ok.eq (a49 _ _ _)<|Ok.eq (i6 _ _) ?_
    rw [e1]
    cases decide (row<=dn h.1) with
    | true=>
     refine Ok.pos rfl<|Ok.eq (a:=.int (rt h.1:Int)) (k7 (i:=1) S1 rfl)<|Ok.eq (a49 _ _ _)<|Ok.eq (i6 _ _)<|Ok.ret ⟨?_,rfl⟩
     rw [e2];rfl
    | false=>exact Ok.neg (by decide)<|Ok.ret ⟨rfl,rfl⟩) (λ_ _ _=>rfl)
   refine Ok.first<|Ok.cg (a1n ..)<|nx_bind<|Ok.eq (S1:=S1) (a:=(N7 ((r.hs.filter A3).map hdD),((r.hs.filter A3).map hdD).length+1)) rfl ?_
   rw [List.length_map]
   refine Ok.of c1 ?_
   refine Ok.nxt<|Ok.cg (a1t ..)<|nx_bind<|Ok.eq (S1:=S1) (a:=(N7 ((r.hs.filter A3).map cD),((r.hs.filter A3).map cD).length+1)) rfl ?_
   rw [List.length_map]
   refine Ok.of c2 ?_
   have n1:j8 (.lst ((c5t r row col).map cD)) S1=.ok (.int (cor r row col:Int)) S1:=(a18 _ S1).trans (by rw [List.length_map,b3f])
   have n2:j8 (.lst ((r.hs.filter A3).map hdD)) S1=.ok (.int (cor r 0 0:Int)) S1:=(a18 _ S1).trans (by rw [List.length_map,b4m])
   have le:¬ (if (cor r 0 0:Int)-(row:Int)-(col:Int) > 0 then (cor r 0 0:Int)-(row:Int)-(col:Int) else 0)<(cor r row col:Int):=by
    by_cases q:0<cor r row col
    ·have:=a8d G V.tr _ row col rfl q
     split <;> omega
    ·split <;> omega
   refine Ok.nxt<|Ok.cg (a1l ..)<|Ok.eq n1<|Ok.eq n2<|Ok.eq (c1f _ _ _)<|Ok.eq (c1f _ _ _)<|Ok.eq (d1l _ _)<|Ok.eq (a88 _ _ _)<|Ok.eq (i6 _ _)<|Ok.neg (by rw [decide_eq_false le];decide)<|Ok.ret ⟨_,.inl rfl,rfl,_,_,rfl⟩
  ·rintro _ S1 ⟨ρ,rfl,hS,o5,o6,rfl⟩
   subst hS
   exact Ok.ret ⟨_,.inl rfl,rfl,_,_,_,rfl⟩
 ·rintro _ S' ⟨ρ,rfl,hS,o4,o5,o6,rfl⟩
  exact Ok.nxt<|Ok.cg (c65 ..)<|Ok.ret ⟨rfl,hS⟩
end L3.K15
end

section
set_option maxHeartbeats 1000000
namespace L3.K15
open PySem PySem.Spec PyProof.Rows L2 L3.Nt
theorem c4m {ns:List Int} {p N:Nat} {S E:Sto} (F:Fw ns p N S):Fw ns p N (S++E):=F.keep (by rw [List.getElem?_append_left F.lt])
theorem b8v (ns:List Int) (S:Sto) (k:Nat):∃ ms:List Int,rn (k+1) c5n [.scr (ns.map D.int)] S=.ok (.ref S.length) (S++[k8 ms 0 0 0]):=by
 obtain ⟨ms,em⟩:=b2c ns
 refine ⟨ms,?_⟩
 rw [rn,c7 (fd:=b57) rfl,b9w,b7 (show slD (.scr (ns.map D.int)) none (some 63) S=.ok (.lst (J0 (ns.map D.int) none (some 63))) S from rfl),em]
 kernel_rfl
noncomputable def wN:Wd->Bool
 | .holds=>false
 | _=>true
noncomputable def hN (r:Nst) (i:Nat):Bool:=match r.hs[i]? with
 | some h=>wN h.2
 | none=>false
theorem a5h (w:Wd) (S:Sto):b8 .NotEq w.d (.str "holds") S=.ok (.bl (wN w)) S:=by cases w <;> kernel_rfl
theorem c70 {w:Wd} (h:wN w=true):w≠.holds:=λe=>by rw [e] at h;cases h
theorem c27 (ns:List Int):∃ S',rn 9 b2h [.scr (ns.map D.int)] []=.ok (.bl true) S':=by
 suffices h:Ok (rn 9 b2h [.scr (ns.map D.int)]) [] λd _=>d=.bl true by
  obtain ⟨d,S',e,rfl⟩:=h
  exact ⟨S',e⟩
 rw [rn,c7 (fd:=law_F) rfl,b83,c0t]
 obtain ⟨ms,ew⟩:=b8v ns [] 7
 refine Ok.first<|Ok.cg (c83 ..)<|Ok.eq ew ?_
 have F0:Fw ms 0 5000 ([]++[k8 ms 0 0 0]):=⟨0,0,0,by simp,by omega,by omega,by omega,by omega⟩
 generalize ([]++[k8 ms 0 0 0]:Sto)=S0 at F0
 show Ok (nxt _ _ _ _ (.nx [some (.scr (ns.map D.int)),some (.ref 0),none,none,none,none,none,none,none,none])) S0 _
 refine Ok.nxt<|Ok.cg (c9l ..)<|Ok.eq (v9 (n:=4) (by omega) _)<|Ok.bind ((Ok.loop (n:=4) (λi ρ S'=>Fw ms 0 (1000 * (4-i)) S'/\∃ (o3 o4 o5 o6 o7 o8 o9 o10:Option D),ρ=[some (.scr (ns.map D.int)),some (.ref 0),o3,o4,o5,o6,o7,o8,o9,o10]) (λρ S' _=>u4 4 S') ?_ ⟨F0.less (by omega),_,_,_,_,_,_,_,_,rfl⟩).mono ?_)
 ·rintro i ρ S hi ⟨F,o3,o4,o5,o6,o7,o8,o9,o10,rfl⟩
  refine ⟨.int (i:Int),_,A0 hi S,rfl,?_⟩
  unfold a5g
  rw [a50]
  refine Ok.first<|Ok.cg (b0i ..)<|Ok.bind ((v6 (N:=1000 * (4-(i+1))+900) (m:=5) (F.less (by omega)) (by omega) (by omega) 7).mono ?_)
  rintro _ S1 ⟨s0,rfl,hs,F1,_,_⟩
  refine Ok.eq (D9 1 s0 S1)<|Ok.nxt<|Ok.cg (a98 ..)<|Ok.bind ((v6 (N:=1000 * (4-(i+1))+800) (m:=1+s0) (F1.less (by omega)) (by omega) (by omega) 7).mono ?_)
  rintro _ S2 ⟨m0,rfl,hm,F2,_,_⟩
  refine Ok.eq (D9 1 m0 S2) ?_
  generalize hsz:1+s0=size at hm ⊢
  generalize hmn:1+m0=many at ⊢
  have h0:0<size:=by omega
  have h5:size<=5:=by omega
  have n0:0<many:=by omega
  have hm':many<=size:=by omega
  refine Ok.nxt<|Ok.cg (a9x ..)<|Ok.bind ((any_ok (N:=1000 * (4-(i+1))+500) (F2.less (by omega)) h0 h5 n0 (by omega) 3).mono ?_)
  rintro _ S3 ⟨F3,r,rfl,V,G⟩
  refine Ok.nxt<|Ok.cg (b0f ..)<|Ok.eq (v9 (n:=4) (by omega) _)<|Ok.bind ((Ok.loop (n:=4) (λj ρ S'=>Fw ms 0 (1000 * (4-(i+1))+3 * (4-j)) S'/\∃ (r:Nst) (o7 o8 o9 o10:Option D),VN size many r/\GoodN size r/\ρ=[some (.scr (ns.map D.int)),some (.ref 0),some (.int (i:Int)),some (.int (size:Int)),some (.int (many:Int)),some r.d,o7,o8,o9,o10]) (λρ S' _=>u4 4 S') ?_ ⟨F3.less (by omega),r,_,_,_,_,V,G,rfl⟩).mono ?_)
  ·rintro j ρ S4 hj ⟨F4,r,o7,o8,o9,o10,V,G,rfl⟩
   refine ⟨.int (j:Int),_,A0 hj S4,rfl,?_⟩
   unfold Q4
   rw [X5]
   have hl:=V.hl
   refine Ok.first<|Ok.cg (a1f ..)<|Ok.eq (b9f V G 3 S4)<|Ok.eq (c1e _)<|Ok.eq (a:=false) rfl<|Ok.neg (by decide)<|Ok.eq (a6j V G 5 S4)<|Ok.eq (a:=true) rfl<|Ok.neg (by decide) ?_
   refine Ok.nxt<|Ok.cg (a1m ..)<|Ok.eq (b48 V G n0 1 S4)<|Ok.eq (a:=true) rfl<|Ok.neg (by decide) ?_
   have F5:Fw ms 0 (1000 * (4-(i+1))+3 * (4-j)) (S4++[.lst six]):=c4m F4
   generalize (S4++[O.lst six])=S5 at F5
   have c:=Q3 (src:=a1v 0 many) (l:=List.range many) (h:=λ(k:Nat)=>D.int (k:Int)) (g:=nN) (p:=hN r) (t:=λd1=>bind (ixD r.d (.int 1)) λx3=>bind (ixD x3 d1) λx4=>bind (ixD x4 (.int 1)) λx5=>bind (b8 .NotEq x5 (.str "holds")) λx6=>bind (asB x6) λz7=>ret z7) (f:=λd1=>ret d1) (S:=S5) (λx=>b5w many x S5) (by rw [List.length_range];exact U0 (by omega)) (λx hx=>by
    have hx:=List.mem_range.mp hx
    obtain ⟨h,eh⟩:∃ h,r.hs[x]?=some h:=⟨_,List.getElem?_eq_getElem (by omega)⟩
    have e:hN r x=wN h.2:=by unfold hN;rw [eh]
    rw [e]
    refine d9 ?_
    exact Ok.eq (a:=.tup (r.hs.map hdD)) (k7 (i:=1) S5 rfl)<|Ok.eq (k7 _ (i8 eh))<|Ok.eq (a:=h.2.d) (k7 (i:=1) S5 rfl)<|Ok.eq (a5h _ _)<|Ok.eq (i6 _ _)<|Ok.ret ⟨rfl,rfl⟩) (λ_ _ _=>rfl)
   rw [List.length_range] at c
   refine Ok.nxt<|Ok.cg (a1q ..)<|nx_bind<|Ok.eq (v9 (by omega) _)<|Ok.of c ?_
   have gm:∀ x∈(List.range many).filter (hN r),x<many:=λx hx=>List.mem_range.mp (List.mem_filter.mp hx).1
   have gl:((List.range many).filter (hN r)).length<=5:=by
    have:=List.length_filter_le (hN r) (List.range many)
    rw [List.length_range] at this;omega
   generalize (List.range many).filter (hN r)=go at gm gl
   have ego:(go.map nN)=(go.map λ(k:Nat)=>(k:Int)).map D.int:=by rw [List.map_map];rfl
   refine Ok.nxt<|Ok.cg (a1h ..)<|Ok.eq (v9 (n:=3) (by omega) _)<|Ok.bind ((Ok.loop (n:=3) (λl ρ S'=>Fw ms 0 (1000 * (4-(i+1))+3 * (4-(j+1))+(3-l)) S'/\∃ (r:Nst) (o8 o10:Option D),VN size many r/\GoodN size r/\ρ=[some (.scr (ns.map D.int)),some (.ref 0),some (.int (i:Int)),some (.int (size:Int)),some (.int (many:Int)),some r.d,some (.int (j:Int)),o8,some (.lst (go.map nN)),o10]) (λρ S' _=>u4 3 S') ?_ ⟨F5.less (by omega),r,_,_,V,G,rfl⟩).mono ?_)
   ·rintro l ρ S6 hl6 ⟨F6,r,o8,o10,V,G,rfl⟩
    refine ⟨.int (l:Int),_,A0 hl6 S6,rfl,?_⟩
    unfold E1
    rw [N5]
    have hl:=V.hl
    have ne:b8 .NotEq (.lst (go.map nN)) (.lst []) S6=.ok (.bl (!(go.map λ(k:Nat)=>(k:Int)).isEmpty)) S6:=by rw [ego];exact a8h _ S6
    refine Ok.first<|Ok.cg (T1 ..)<|Ok.eq ne<|Ok.eq (i6 _ _)<|Ok.ite (λz=>?_) λ_=>Ok.ret ⟨_,.inl rfl,F6.less (by omega),r,_,_,V,G,rfl⟩
    have g0:0<go.length:=by
     cases go with
     | nil=>cases z
     | cons a l=>exact Nat.succ_pos _
    refine Ok.eq ((a18 _ S6).trans (by rw [List.length_map]))<|Ok.bind ((v6 (N:=1000 * (4-(i+1))+3 * (4-(j+1))+(3-(l+1))) (m:=go.length) (F6.less (by omega)) g0 (by omega) 7).mono ?_)
    rintro _ S7 ⟨x,rfl,hx,F7,_,_⟩
    obtain ⟨y,ey⟩:∃ y,go[x]?=some y:=⟨_,List.getElem?_eq_getElem hx⟩
    have hy:=gm y (List.mem_of_getElem? ey)
    obtain ⟨h,eh⟩:∃ h,r.hs[y]?=some h:=⟨_,List.getElem?_eq_getElem (by omega)⟩
    have i1:ixD (.lst (go.map nN)) (.int (x:Int)) S7=.ok (.int (y:Int)) S7:=b3l S7 (i8 ey)
    refine Ok.eq i1<|Ok.eq (a:=.tup (r.hs.map hdD)) (k7 (i:=1) S7 rfl)<|Ok.eq (k7 _ (i8 eh))<|Ok.eq (a:=h.2.d) (k7 (i:=1) S7 rfl)<|Ok.eq (a5h _ _)<|Ok.eq (i6 _ _)<|Ok.ite (λz2=>?_) λ_=>Ok.ret ⟨_,.inl rfl,F7,r,_,_,V,G,rfl⟩
    have on:=b9g V G hm' (t:=h.1) (w:=h.2) eh (c70 z2)
    have st:=(b42 V hy 3 S7).2 on
    obtain ⟨r',er⟩:∃ r',j7 size r y=some r':=by
     cases q:j7 size r y with
     | none=>exact absurd q on
     | some r'=>exact ⟨r',rfl⟩
    rw [er] at st
    exact Ok.eq (a:=r'.d) st<|Ok.ret ⟨_,.inl rfl,F7,r',_,_,VN.step V hy er,GoodN.step V G er,rfl⟩
   ·rintro _ S' ⟨ρ,rfl,F',r,o8,o10,V,G,rfl⟩
    exact Ok.ret ⟨_,.inl rfl,F'.less (by omega),r,_,_,_,_,V,G,rfl⟩
  ·rintro _ S' ⟨ρ,rfl,F',r,o7,o8,o9,o10,_,_,rfl⟩
   exact Ok.ret ⟨_,.inl rfl,F'.less (by omega),_,_,_,_,_,_,_,_,rfl⟩
 ·rintro _ S' ⟨ρ,rfl,_,o3,o4,o5,o6,o7,o8,o9,o10,rfl⟩
  exact Ok.nxt<|Ok.cg (c7d ..)<|Ok.ret rfl
end L3.K15
end
section
set_option maxHeartbeats 1000000
namespace L3.K15
open PySem L2 Hn
noncomputable abbrev iHE:Stmt:=a25 (top 1) 0
noncomputable abbrev iNS:Stmt:=a25 (top 2) 0
noncomputable abbrev iND:Stmt:=a25 (top 3) 0
section
variable {P:Program} {w:World} {K:PySem.W.Frag} {mg:Str->Option Value} {base:Heap} {f fB B:Addr} {fd fdB:FuncData}
theorem d17:FnScope ["self","text"] ["self","text"] (c9 iHE):=⟨rfl,rfl,rfl,by decide +kernel,rfl,by decide +kernel,by decide +kernel⟩
theorem b4s (F:Fun K "__init__" "HandError.__init__" iHE f fd) (T:TxE K mg B fB):FnOk P w K mg base CX0 1 f fd ["self","text"] (spHE K):=by
 refine F.ok d17 (λvs H Q E h=>?_) (λcdv A outer s H vs Q E hr h=>?_)
 ·obtain ⟨x,y,C,d,rfl,_⟩:=h
  rfl
 ·obtain ⟨x,y,C,d,rfl,M,e0,k⟩:=h
  refine ⟨_,a3i (Y9 (b5r rfl T.mV T.fV (B7 (pv 0) (B7 (pv 1) a02)))),?_⟩
  exact ⟨_,rfl,_,rfl,x,C,d,y,rfl,M,e0,k⟩
theorem d2f:FnScope ["self","hand"] ["self","hand"] (c9 iNS):=⟨rfl,rfl,rfl,by decide +kernel,rfl,by decide +kernel,by decide +kernel⟩
theorem c67 (F:Fun K "__init__" "NoStep.__init__" iNS f fd) (T:TxE K mg B fB) (FB:Fun K "__init__" "HandError.__init__" iHE fB fdB) (bB:Binds K fdB ["self","text"] []):FnOk P w K mg base CX0 2 f fd ["self","hand"] (sp1 K "hand"):=by
 have G:FnOk P w K mg base CX0 1 fB fdB ["self","text"] (spHE K):=b4s FB T
 refine F.ok d2f (λvs H Q E h=>?_) (λcdv A outer s H vs Q E hr h=>?_)
 ·obtain ⟨x,v,C,dv,rfl,_⟩:=h
  rfl
 ·obtain ⟨x,v,C,dv,rfl,M,na,e0,ft,k⟩:=h
  have hu:(A.deeper (PyProof.Rows.envOfC "NoStep.__init__" (c9 iNS) s.heap.objs.size f cdv)).units+80<cLine:=by have:=hr.un;omega
  refine ⟨_,R1 (Y9 (a4a rfl T.mB T.sB T.rB T.cB T.kB G hr bB a5t (B7 (pv 0) (B7 (a9n (Z0 (a3s hr.gd hu (pv 1) (Z0 a9l))) (by decide)) a02))))
   (a3i (a3w (pv 0) (pv 1) rfl)),?_⟩
  refine ⟨_,rfl,_,rfl,dv,ft.at_,ft.sh,ft.l1,ft.l2,λz hz=>?_⟩
  refine ⟨x,.str z,C,none,rfl,M,e0,?_⟩
  refine ⟨_,rfl,_,rfl,x,C,rfl,M,na,.inl ⟨e0,λd hd=>?_⟩⟩
  have ne:d≠x:=λq=>by rw [q,e0] at hd;cases hd
  exact k _ ⟨d,hd,ne,d4,by rw [b9 ne,d4],λb hb hb2=>by rw [b9 hb,b9 hb2]⟩
theorem d1y:FnScope ["self","word","at"] ["self","word","at"] (c9 iND):=⟨rfl,rfl,rfl,by decide +kernel,rfl,by decide +kernel,by decide +kernel⟩
theorem c9j (F:Fun K "__init__" "NoStand.__init__" iND f fd) (T:TxE K mg B fB) (FB:Fun K "__init__" "HandError.__init__" iHE fB fdB) (bB:Binds K fdB ["self","text"] []):FnOk P w K mg base CX0 2 f fd ["self","word","at"] (sp2 K "word" "at"):=by
 have G:FnOk P w K mg base CX0 1 fB fdB ["self","text"] (spHE K):=b4s FB T
 refine F.ok d1y (λvs H Q E h=>?_) (λcdv A outer s H vs Q E hr h=>?_)
 ·obtain ⟨x,v,u,C,dv,du,rfl,_⟩:=h
  rfl
 ·obtain ⟨x,v,u,C,dv,du,rfl,M,na,nb,e0,ft,fu,k⟩:=h
  have hu:(A.deeper (PyProof.Rows.envOfC "NoStand.__init__" (c9 iND) s.heap.objs.size f cdv)).units+80<cLine:=by have:=hr.un;omega
  refine ⟨_,R1 (Y9 (a4a rfl T.mB T.sB T.rB T.cB T.kB G hr bB a5t (B7 (pv 0) (B7 (a9n (Z0 (a3s hr.gd hu (pv 1) (Z0 (a3s hr.gd hu (pv 2) a9l)))) (by decide)) a02))))
   (R1 (a3w (pv 0) (pv 1) rfl) (a3i (a3w (pv 0) (pv 2) rfl))),?_⟩
  refine ⟨_,rfl,_,rfl,dv,ft.at_,ft.sh,ft.l1,ft.l2,_,rfl,du,fu.at_,fu.sh,fu.l1,fu.l2,λz hz=>?_⟩
  refine ⟨x,.str z,C,none,rfl,M,e0,?_⟩
  refine ⟨_,rfl,_,rfl,x,C,rfl,M,na,.inl ⟨e0,λd hd=>?_⟩⟩
  have ne:d≠x:=λq=>by rw [q,e0] at hd;cases hd
  refine ⟨_,rfl,_,rfl,x,C,rfl,M,nb,.inr ⟨d,_,ne,d4,by rw [b9 ne,d4],by show 1<900;decide,?_⟩⟩
  refine k _ ⟨d,hd,ne,by rw [b9 ne.symm,d4],by rw [d4,b89],λb hb hb2=>by rw [b9 hb2,b9 hb,b9 hb2]⟩
end
end L3.K15
end
section
set_option maxHeartbeats 4000000
namespace L3.K15
open PySem PySem.Spec PyProof.Rows L2 Hn
theorem all_mk {l:PySem.W.OpenLaw} {w:World} {K:PySem.W.Frag} {h:Heap} {mg:Str->Option Value} {fa B fB C1 f1 C3 f3 g0 g1 g2 g3 g4 g5 g6 g7 g8 g9 g10 g11 g12 g13 g14 g15 g16 g17 g18 g19 g20 g21 g22 g23 g24 g25 g26 g27 g28 g29 g30 g31 g32 g33 g34 g35 g36 g37 g38 g39 g40 g41 g42 g43:Addr} (X:K.In h) (G:h.Ns mainGlobals mg) (hfa:mg "law" = some (.ref fa))
  {odHE anHE odNS anNS odND anND:Option Addr} {slHE slNS slND:Array (Option Value)} {ocHE kVHE dcHE pmHE cdHE ctHE ocNS kVNS dcNS pmNS cdNS ctNS ocND kVND dcND pmND cdND ctND:Value} {Zc0:Addr} {tC0_0 tC0_1 tC0_2 tC0_3 tC0_4 tC0_5 tC0_6:Tok} {nC0:Nat} {slC0:Array (Option Value)} {Zc1:Addr} {tC1_0 tC1_1 tC1_2:Tok} {nC1:Nat} {slC1:Array (Option Value)} {Zc2:Addr} {tC2_0 tC2_1 tC2_2 tC2_3 tC2_4:Tok} {nC2:Nat} {slC2:Array (Option Value)}
  (aHE:PySem.W.nsIn K mainGlobals "HandError" = some (some (.ref B))) (iHE_:PySem.W.findIn K (.ref B) "__init__" = some (some (.ref fB))) (nHE:PySem.W.isFn K (.ref fB)=true) (lHE:K.lookup fB=some ⟨ocHE,odHE,.func (PySem.W.fnOf "__init__" "HandError.__init__" (w8 (iHE)) (m4 (iHE)) (c9 (iHE)) .none kVHE dcHE pmHE anHE cdHE ctHE),slHE⟩) (cHE:PySem.W.codeIn K cdHE "HandError.__init__" = true) (kHE:PySem.W.keepIn K (.ref fB)=true)
  (aNS:PySem.W.nsIn K mainGlobals "NoStep" = some (some (.ref C1))) (iNS_:PySem.W.findIn K (.ref C1) "__init__" = some (some (.ref f1))) (nNS:PySem.W.isFn K (.ref f1)=true) (lNS:K.lookup f1=some ⟨ocNS,odNS,.func (PySem.W.fnOf "__init__" "NoStep.__init__" (w8 (iNS)) (m4 (iNS)) (c9 (iNS)) .none kVNS dcNS pmNS anNS cdNS ctNS),slNS⟩) (cNS:PySem.W.codeIn K cdNS "NoStep.__init__" = true) (kNS:PySem.W.keepIn K (.ref f1)=true)
  (aND:PySem.W.nsIn K mainGlobals "NoStand" = some (some (.ref C3))) (iND_:PySem.W.findIn K (.ref C3) "__init__" = some (some (.ref f3))) (nND:PySem.W.isFn K (.ref f3)=true) (lND:K.lookup f3=some ⟨ocND,odND,.func (PySem.W.fnOf "__init__" "NoStand.__init__" (w8 (iND)) (m4 (iND)) (c9 (iND)) .none kVND dcND pmND anND cdND ctND),slND⟩) (cND:PySem.W.codeIn K cdND "NoStand.__init__" = true) (kND:PySem.W.keepIn K (.ref f3)=true)
  (fV:PySem.W.findCls K (.type "ValueError") (.type "type") "__init__" = some (.val (.builtin "ValueError.__init__"))) (sB:PySem.W.specialIn K (.ref B) "__getattribute__" = some (some (.builtin "type.__getattribute__"))) (rB:PySem.W.readsIn K B (.type "type")=true) (cB:PySem.W.findCls K (.ref B) (.type "type") "__init__" = some (.val (.ref fB)))
  (rxc:[B,C1,C3].all (xcB K)=true)
  (rjk:X2 K fB=false)
  (rsub:((List.range [B,C1,C3].length).all λc=>(List.range [B,C1,C3].length).all λc0=>isB (PySem.W.kitOne K (.ref (a0b [B,C1,C3] fB c)) (.ref (a0b [B,C1,C3] fB c0))) (Γ.sub c c0))=true)
  (rsV:([B,C1,C3].all λC=>isB (PySem.W.kitOne K (.ref C) (.type "ValueError")) true)=true)
  (rsT:([B,C1,C3].all λC=>tys.all λt=>isB (PySem.W.kitOne K (.ref C) (.type t)) false)=true)
  (rfl_:(Γ.flds.all λg=>[B,C1,C3].all λC=>isNo (PySem.W.findIn K (.ref C) g))=true)
  (rbl:(bnames.all λx=>(Γ.gl.lookup x).isSome||isNo (PySem.W.nsIn K mainGlobals x))=true)
  (dg0:GF K "is_whole" (top 5) g0)
  (dg1:GF K "is_tuple_of" (top 6) g1)
  (dg2:GF K "with_at" (top 7) g2)
  (dg3:GF K "triangle" (top 8) g3)
  (dg4:GF K "is_decider" (top 12) g4)
  (dg5:GF K "is_mark" (top 13) g5)
  (dg6:GF K "are_words_of" (top 14) g6)
  (dg7:GF K "step_decider" (top 15) g7)
  (dg8:GF K "cell_of" (top 17) g8)
  (dg9:GF K "end_of" (top 18) g9)
  (dg10:GF K "number_of" (top 19) g10)
  (dg11:GF K "step_net" (top 20) g11)
  (dg12:GF K "hand_behind" (top 21) g12)
  (dg13:GF K "local_at" (top 22) g13)
  (dg14:GF K "word_at" (top 23) g14)
  (dg15:GF K "lets_net" (top 26) g15)
  (dg16:GF K "is_net_stand" (top 27) g16)
  (dg17:GF K "is_box" (top 28) g17)
  (dg18:GF K "is_hand_here" (top 29) g18)
  (dg19:GF K "is_trail" (top 30) g19)
  (dg20:GF K "check_local" (top 31) g20)
  (dg21:GF K "check_marked" (top 32) g21)
  (dg22:GF K "some_at" (top 33) g22)
  (dg23:GF K "is_so" (top 35) g23)
  (dg24:GF K "hands_meant" (top 36) g24)
  (dg25:GF K "says" (top 37) g25)
  (dg26:GF K "_law_feed" (top 39) g26)
  (dg27:GF K "_law_draw" (top 40) g27)
  (dg28:GF K "_law_behind" (top 41) g28)
  (dg29:GF K "_law_cells" (top 42) g29)
  (dg30:GF K "_law_word_at" (top 43) g30)
  (dg31:GF K "_law_local" (top 44) g31)
  (dg32:GF K "_law_at" (top 45) g32)
  (dg33:GF K "_law_net_behind" (top 46) g33)
  (dg34:GF K "_law_amiss_here" (top 47) g34)
  (dg35:GF K "_law_amiss" (top 48) g35)
  (dg36:GF K "_law_first_net" (top 49) g36)
  (dg37:GF K "_law_reached" (top 50) g37)
  (dg38:GF K "_law_nudged" (top 51) g38)
  (dg39:GF K "_law_anybody" (top 52) g39)
  (dg40:GF K "_law_good_sentences" (top 53) g40)
  (dg41:GF K "_law_corners" (top 54) g41)
  (dg42:GF K "_law_cells_right" (top 55) g42)
  (dg43:GF K "law" (top 56) g43)
  (aC0:PySem.W.nsIn K mainGlobals "WORDS" = some (some (.ref Zc0))) (lC0:K.lookup Zc0=some ⟨.type "tuple",none,.seq #[.str "out" tC0_0,.str "ask" tC0_1,.str "close" tC0_2,.str "look" tC0_3,.str "holds" tC0_4,.str "right" tC0_5,.str "down" tC0_6] nC0,slC0⟩)
  (aC1:PySem.W.nsIn K mainGlobals "ENDED" = some (some (.ref Zc1))) (lC1:K.lookup Zc1=some ⟨.type "tuple",none,.seq #[.str "holds" tC1_0,.str "right" tC1_1,.str "down" tC1_2] nC1,slC1⟩)
  (aC2:PySem.W.nsIn K mainGlobals "WORDS_HERE" = some (some (.ref Zc2))) (lC2:K.lookup Zc2=some ⟨.type "tuple",none,.seq #[.str "out" tC2_0,.str "ask" tC2_1,.str "close" tC2_2,.str "look" tC2_3,.str "holds" tC2_4] nC2,slC2⟩) :
  ∃ fd:FuncData,(∀ (s:Shared) (v:Value),BindsTo s fd ⟨[v],[]⟩ [("_law_script",v)])/\∀ base:Heap,K.In base->base.Ns mainGlobals mg->FnOk l.prog w K mg base CX0 12 fa fd ["_law_script"] (a3m K):=by
 have e:=hfa.symm.trans (PySem.W.mg_of X G dg43.a)
 cases e
 have RB:RowB K Γ [B,C1,C3] fB:=⟨rxc,rjk,rsub,rsV,rsT,rfl_,rbl⟩
 have FHE:=a09 (st:=iHE) lHE cHE kHE
 have bHE:=FHE.binds (ps:=["self","text"]) λ_ _ _ _ _ _ us hl=>match us,hl with | [_,_],_=>rfl
 have FNS:=a09 (st:=iNS) lNS cNS kNS
 have bNS:=FNS.binds (ps:=["self","hand"]) λ_ _ _ _ _ _ us hl=>match us,hl with | [_,_],_=>rfl
 have FND:=a09 (st:=iND) lND cND kND
 have bND:=FND.binds (ps:=["self","word","at"]) λ_ _ _ _ _ _ us hl=>match us,hl with | [_,_,_],_=>rfl
 have xHE:XC K B:=a66 ((List.all_eq_true.mp rxc) B (by simp))
 have xNS:XC K C1:=a66 ((List.all_eq_true.mp rxc) C1 (by simp))
 have xND:XC K C3:=a66 ((List.all_eq_true.mp rxc) C3 (by simp))
 obtain ⟨_,⟨oc,od,kV,dc,pm,an,cd,ct,sl,rfl,lk,hc⟩,kp⟩:=dg43.f
 have FL:=a09 lk hc kp
 refine ⟨PySem.W.fnOf "law" "law" (w8 (top 56)) (m4 (top 56)) (c9 (top 56)) .none kV dc pm an cd ct,λs v=>.of_eq rfl,λbase KB GB=>?_⟩
 let T:Tx:=⟨l.prog,w,K,mg,base,a0b [B,C1,C3] fB⟩
 have mV:mg "ValueError" = none:=PySem.W.mg_none_of X G (Z1 ((List.all_eq_true.mp rbl) "ValueError" (by decide)))
 have TE:TxE K mg B fB:=⟨mV,fV,PySem.W.mg_of X G aHE,sB,rB,cB,kHE⟩
 have gHE:FnOk l.prog w K mg base CX0 2 fB _ ["self","text"] (spHE K):=(b4s FHE TE).mono (by decide)
 have gNS:FnOk l.prog w K mg base CX0 2 f1 _ _ _:=c67 FNS TE FHE bHE
 have gND:FnOk l.prog w K mg base CX0 2 f3 _ _ _:=c9j FND TE FHE bHE
 have st:TxSt T Γ:=by
  refine RB.st (T:=T) X G rfl (λx d e=>?_) (λx c fs e=>?_) (λx kvs e=>?_)
  ·have m:=L2.mem_of_lookup e
   simp only [Γ,List.mem_cons,List.not_mem_nil,or_false,Prod.mk.injEq,L3.G.val.injEq,reduceCtorEq,and_false,false_or] at m
   rcases m with ⟨rfl,rfl⟩ | ⟨rfl,rfl⟩ | ⟨rfl,rfl⟩
   ·exact ⟨_,.ref Zc0,PySem.W.mg_of X G aC0,rfl,λμ H=>.tup (xs:=[.str "out",.str "ask",.str "close",.str "look",.str "holds",.str "right",.str "down"]) (.inr ⟨_,_,_,lC0,rfl,rfl,Nat.le_of_ble_eq_true rfl,(.cons ⟨_,rfl⟩ (.cons ⟨_,rfl⟩ (.cons ⟨_,rfl⟩ (.cons ⟨_,rfl⟩ (.cons ⟨_,rfl⟩ (.cons ⟨_,rfl⟩ (.cons ⟨_,rfl⟩ .nil))))))),rfl⟩) (.cons (.str _) (.cons (.str _) (.cons (.str _) (.cons (.str _) (.cons (.str _) (.cons (.str _) (.cons (.str _) .nil)))))))⟩
   ·exact ⟨_,.ref Zc1,PySem.W.mg_of X G aC1,rfl,λμ H=>.tup (xs:=[.str "holds",.str "right",.str "down"]) (.inr ⟨_,_,_,lC1,rfl,rfl,Nat.le_of_ble_eq_true rfl,(.cons ⟨_,rfl⟩ (.cons ⟨_,rfl⟩ (.cons ⟨_,rfl⟩ .nil))),rfl⟩) (.cons (.str _) (.cons (.str _) (.cons (.str _) .nil)))⟩
   ·exact ⟨_,.ref Zc2,PySem.W.mg_of X G aC2,rfl,λμ H=>.tup (xs:=[.str "out",.str "ask",.str "close",.str "look",.str "holds"]) (.inr ⟨_,_,_,lC2,rfl,rfl,Nat.le_of_ble_eq_true rfl,(.cons ⟨_,rfl⟩ (.cons ⟨_,rfl⟩ (.cons ⟨_,rfl⟩ (.cons ⟨_,rfl⟩ (.cons ⟨_,rfl⟩ .nil))))),rfl⟩) (.cons (.str _) (.cons (.str _) (.cons (.str _) (.cons (.str _) (.cons (.str _) .nil)))))⟩
  ·have m:=L2.mem_of_lookup e
   simp only [Γ,List.mem_cons,List.not_mem_nil,or_false,Prod.mk.injEq,L3.G.err.injEq,reduceCtorEq,and_false,false_or] at m
   rcases m with ⟨rfl,rfl,rfl⟩ | ⟨rfl,rfl,rfl⟩ | ⟨rfl,rfl,rfl⟩
   ·exact ⟨by simp,⟨xHE,PySem.W.mg_of X G aHE,fB,_,_,iHE_,nHE,bHE,gHE⟩,by simp⟩
   ·exact ⟨by simp,⟨xNS,PySem.W.mg_of X G aNS,f1,_,_,iNS_,nNS,bNS,gNS⟩,by simp [Γ]⟩
   ·exact ⟨by simp,⟨xND,PySem.W.mg_of X G aND,f3,_,_,iND_,nND,bND,gND⟩,by simp [Γ]⟩
  ·have m:=L2.mem_of_lookup e
   simp [Γ] at m
 have fs:b29 T Γ Tb:=by
  refine c9p ?_
  refine And.intro (fe X G (T:=T) dg0 (by decide +kernel) (λ_ _ _ _ _ _ us hl=>match us,hl with | [_],_=>rfl) rfl rfl) ?_
  refine And.intro (fe X G (T:=T) dg1 (by decide +kernel) (λ_ _ _ _ _ _ us hl=>match us,hl with | [_,_],_=>rfl) rfl rfl) ?_
  refine And.intro (fe X G (T:=T) dg2 (by decide +kernel) (λ_ _ _ _ _ _ us hl=>match us,hl with | [_,_,_],_=>rfl) rfl rfl) ?_
  refine And.intro (fe X G (T:=T) dg3 (by decide +kernel) (λ_ _ _ _ _ _ us hl=>match us,hl with | [_],_=>rfl) rfl rfl) ?_
  refine And.intro (fe X G (T:=T) dg4 (by decide +kernel) (λ_ _ _ _ _ _ us hl=>match us,hl with | [_,_],_=>rfl) rfl rfl) ?_
  refine And.intro (fe X G (T:=T) dg5 (by decide +kernel) (λ_ _ _ _ _ _ us hl=>match us,hl with | [_,_],_=>rfl) rfl rfl) ?_
  refine And.intro (fe X G (T:=T) dg6 (by decide +kernel) (λ_ _ _ _ _ _ us hl=>match us,hl with | [_,_],_=>rfl) rfl rfl) ?_
  refine And.intro (fe X G (T:=T) dg7 (by decide +kernel) (λ_ _ _ _ _ _ us hl=>match us,hl with | [_,_],_=>rfl) rfl rfl) ?_
  refine And.intro (fe X G (T:=T) dg8 (by decide +kernel) (λ_ _ _ _ _ _ us hl=>match us,hl with | [_],_=>rfl) rfl rfl) ?_
  refine And.intro (fe X G (T:=T) dg9 (by decide +kernel) (λ_ _ _ _ _ _ us hl=>match us,hl with | [_],_=>rfl) rfl rfl) ?_
  refine And.intro (fe X G (T:=T) dg10 (by decide +kernel) (λ_ _ _ _ _ _ us hl=>match us,hl with | [_],_=>rfl) rfl rfl) ?_
  refine And.intro (fe X G (T:=T) dg11 (by decide +kernel) (λ_ _ _ _ _ _ us hl=>match us,hl with | [_,_,_],_=>rfl) rfl rfl) ?_
  refine And.intro (fe X G (T:=T) dg12 (by decide +kernel) (λ_ _ _ _ _ _ us hl=>match us,hl with | [_,_],_=>rfl) rfl rfl) ?_
  refine And.intro (fe X G (T:=T) dg13 (by decide +kernel) (λ_ _ _ _ _ _ us hl=>match us,hl with | [_,_,_],_=>rfl) rfl rfl) ?_
  refine And.intro (fe X G (T:=T) dg14 (by decide +kernel) (λ_ _ _ _ _ _ us hl=>match us,hl with | [_,_],_=>rfl) rfl rfl) ?_
  refine And.intro (fe X G (T:=T) dg15 (by decide +kernel) (λ_ _ _ _ _ _ us hl=>match us,hl with | [_,_,_],_=>rfl) rfl rfl) ?_
  refine And.intro (fe X G (T:=T) dg16 (by decide +kernel) (λ_ _ _ _ _ _ us hl=>match us,hl with | [_,_,_],_=>rfl) rfl rfl) ?_
  refine And.intro (fe X G (T:=T) dg17 (by decide +kernel) (λ_ _ _ _ _ _ us hl=>match us,hl with | [_,_],_=>rfl) rfl rfl) ?_
  refine And.intro (fe X G (T:=T) dg18 (by decide +kernel) (λ_ _ _ _ _ _ us hl=>match us,hl with | [_,_],_=>rfl) rfl rfl) ?_
  refine And.intro (fe X G (T:=T) dg19 (by decide +kernel) (λ_ _ _ _ _ _ us hl=>match us,hl with | [_,_],_=>rfl) rfl rfl) ?_
  refine And.intro (fe X G (T:=T) dg20 (by decide +kernel) (λ_ _ _ _ _ _ us hl=>match us,hl with | [_,_],_=>rfl) rfl rfl) ?_
  refine And.intro (fe X G (T:=T) dg21 (by decide +kernel) (λ_ _ _ _ _ _ us hl=>match us,hl with | [_,_,_],_=>rfl) rfl rfl) ?_
  refine And.intro (fe X G (T:=T) dg22 (by decide +kernel) (λ_ _ _ _ _ _ us hl=>match us,hl with | [_,_],_=>rfl) rfl rfl) ?_
  refine And.intro (fe X G (T:=T) dg23 (by decide +kernel) (λ_ _ _ _ _ _ us hl=>match us,hl with | [_,_],_=>rfl) rfl rfl) ?_
  refine And.intro (fe X G (T:=T) dg24 (by decide +kernel) (λ_ _ _ _ _ _ us hl=>match us,hl with | [_,_],_=>rfl) rfl rfl) ?_
  refine And.intro (fe X G (T:=T) dg25 (by decide +kernel) (λ_ _ _ _ _ _ us hl=>match us,hl with | [_,_,_],_=>rfl) rfl rfl) ?_
  refine And.intro (fe X G (T:=T) dg26 (by decide +kernel) (λ_ _ _ _ _ _ us hl=>match us,hl with | [_],_=>rfl) rfl rfl) ?_
  refine And.intro (fe X G (T:=T) dg27 (by decide +kernel) (λ_ _ _ _ _ _ us hl=>match us,hl with | [_,_],_=>rfl) rfl rfl) ?_
  refine And.intro (fe X G (T:=T) dg28 (by decide +kernel) (λ_ _ _ _ _ _ us hl=>match us,hl with | [_,_],_=>rfl) rfl rfl) ?_
  refine And.intro (fe X G (T:=T) dg29 (by decide +kernel) (λ_ _ _ _ _ _ us hl=>match us,hl with | [_],_=>rfl) rfl rfl) ?_
  refine And.intro (fe X G (T:=T) dg30 (by decide +kernel) (λ_ _ _ _ _ _ us hl=>match us,hl with | [_,_],_=>rfl) rfl rfl) ?_
  refine And.intro (fe X G (T:=T) dg31 (by decide +kernel) (λ_ _ _ _ _ _ us hl=>match us,hl with | [_,_,_],_=>rfl) rfl rfl) ?_
  refine And.intro (fe X G (T:=T) dg32 (by decide +kernel) (λ_ _ _ _ _ _ us hl=>match us,hl with | [_],_=>rfl) rfl rfl) ?_
  refine And.intro (fe X G (T:=T) dg33 (by decide +kernel) (λ_ _ _ _ _ _ us hl=>match us,hl with | [_,_,_],_=>rfl) rfl rfl) ?_
  refine And.intro (fe X G (T:=T) dg34 (by decide +kernel) (λ_ _ _ _ _ _ us hl=>match us,hl with | [_],_=>rfl) rfl rfl) ?_
  refine And.intro (fe X G (T:=T) dg35 (by decide +kernel) (λ_ _ _ _ _ _ us hl=>match us,hl with | [_,_],_=>rfl) rfl rfl) ?_
  refine And.intro (fe X G (T:=T) dg36 (by decide +kernel) (λ_ _ _ _ _ _ us hl=>match us,hl with | [_,_],_=>rfl) rfl rfl) ?_
  refine And.intro (fe X G (T:=T) dg37 (by decide +kernel) (λ_ _ _ _ _ _ us hl=>match us,hl with | [_,_,_],_=>rfl) rfl rfl) ?_
  refine And.intro (fe X G (T:=T) dg38 (by decide +kernel) (λ_ _ _ _ _ _ us hl=>match us,hl with | [_,_,_],_=>rfl) rfl rfl) ?_
  refine And.intro (fe X G (T:=T) dg39 (by decide +kernel) (λ_ _ _ _ _ _ us hl=>match us,hl with | [_,_,_],_=>rfl) rfl rfl) ?_
  refine And.intro (fe X G (T:=T) dg40 (m:=["_law_some"]) (by decide +kernel) (λ_ _ _ _ _ _ us hl=>match us,hl with | [],_=>rfl) rfl rfl) ?_
  refine And.intro (fe X G (T:=T) dg41 (by decide +kernel) (λ_ _ _ _ _ _ us hl=>match us,hl with | [_,_],_=>rfl) rfl rfl) ?_
  refine And.intro (fe X G (T:=T) dg42 (m:=["count[]"]) (by decide +kernel) (λ_ _ _ _ _ _ us hl=>match us,hl with | [_,_],_=>rfl) rfl rfl) ?_
  refine And.intro (fe X G (T:=T) dg43 (by decide +kernel) (λ_ _ _ _ _ _ us hl=>match us,hl with | [_],_=>rfl) rfl rfl) ?_
  trivial
 have ok:=b90 (Rs:=Rs) (T:=T) (k:=8) (i:=43) (fd:=j6 (top 56) []) (b8h st fs 8) rfl FL rfl rfl (a0q (by decide +kernel))
 exact FnOk.imp ok (b1f c27)
theorem walk {l:PySem.W.OpenLaw} {q:Program} {loose:List Str} {XP:(Str->Option Value)->Heap->Prop} {YP:World->Heap->Prop} {d:DefRec} {K:Params->PySem.W.Frag} (hn:l.most=some 63) (hdf:d.params.defaults=[])
  (hY:∀ (w:World) (h:Heap),YP w h->(K w.params).In h)
  (F:∀ (w:World) (mg:Str->Option Value) (fa:Addr) (h:Heap),(K w.params).In h->h.Ns mainGlobals mg->mg d.name=some (.ref fa) ->
   ∃ fd:FuncData,(∀ (s:Shared) (u:Value),BindsTo s fd ⟨[u],[]⟩ [("_law_script",u)])/\∀ base:Heap,(K w.params).In base->base.Ns mainGlobals mg->FnOk l.prog w (K w.params) mg base CX0 12 fa fd ["_law_script"] (a3m (K w.params))) :
  PySem.W.WalkO q loose XP YP l.row.toRowW d [] (λf vs=>PySem.call f vs):=
 L2.walk_of (n:=63) (k:=12) (x:="_law_script") (CX:=λ_=>CX0) (sp:=λw=>a3m (K w.params)) hn (by decide) hdf ⟨λ_=>rfl,by decide,by decide,rfl⟩ hY F (λ_ _ a ns hl _ hS=>⟨a,ns,rfl,hS,λ_=>rfl⟩) λ_ _ _ _ _ z=>z
end L3.K15
open PySem PySem.W PyProof.Rows
set_option maxRecDepth 100000 in
set_option maxHeartbeats 0 in
theorem PySem.Challenge.cw_handnames_k15_whole_corners_of_nets_holds : PySem.Challenge.rw_handnames_k15_whole_corners_of_nets.Holds := by
 w_on;o_law;k_head;(case hw=>w_witness2)
 k_fill
 refine L3.K15.walk (l:=PySem.Challenge.rw_handnames_k15_whole_corners_of_nets) rfl rfl (λw h Y=>PySem.W.kIn_of Y) ?F
 case F=>
  intro w mg fa h KX G hmg
  refine' L3.K15.all_mk KX G hmg ?_ ?_ ?_ ?_ ?_ ?_ ?_ ?_ ?_ ?_ ?_ ?_ ?_ ?_ ?_ ?_ ?_ ?_ ?_ ?_ ?_ ?_ ?_ ?_ ?_ ?_ ?_ ?_ ?_ ?_ ?_ ?_ ?_ ?_ ?_ ?_ ?_ ?_ ?_ ?_ ?_ ?_ ?_ ?_ ?_ ?_ ?_ ?_ ?_ ?_ ?_ ?_ ?_ ?_ ?_ ?_ ?_ ?_ ?_ ?_ ?_ ?_ ?_ ?_ ?_ ?_ ?_ ?_ ?_ ?_ ?_ ?_ ?_ ?_ ?_ ?_ ?_ ?_ ?_
  rotate_left 101
  iterate 22 k_is
  iterate 7 kernel_rfl
  iterate 44 (refine' L3.gf_mk ?a ?l ?c ?k;(case a=>k_is);(case l=>k_is);(case c=>k_is);(case k=>k_is))
  iterate 6 k_is
end
