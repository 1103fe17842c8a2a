import PyProof.Rows.All
import Wide.All
import OpenK.AllK
import Wide.FinOn
import Lean
import PyProof.EqAt
import PyProof.EqKinds
import PyProof.TupleCall
import KE.KRevIter
import PyProof.EnumMake
import KE.KDictSum
import PyProof.Rows.SortWalk
import PyProof.Rows.SeqMore
import PyProof.Draws
import PyProof.StrBlockH
import PyProof.StrLawsTight
import PyProof.FitsReplace
import PyProof.StrReplace2
import KE.KIntText
import PyProof.Rows.FStr
import PyProof.StrBlock2
import PyProof.DictWalks
import KE.KDictList
import KE.KFind
import PyProof.DictValues
import PyProof.TupleOfGen
import OpenK.KMore
import PyProof.Rows.TupIter
import KE.KTab
import PyProof.Rows.StrSplitMax
import PySem.Challenge.RW_tastesbook_k86_desk_refuses
set_option Elab.async false
set_option linter.all false
open PySem.W renaming Frag → Fq
set_option maxRecDepth 100000
namespace PySem.W.Fast
def tw2434921672639957732:=()
def tw1239288001412851322:=()
def tw9690492282112925396:=()
def tw3028522723170264302:=()
def tw13956891525856451220:=()
def tw931700412874643974:=()
def tw2971107327524643730:=()
def tw5843882390628359549:=()
def tw7403691599892314830:=()
def tw1715028434554726793:=()
def tw17363677976617175135:=()
def tw15004364371471664976:=()
def tw2716467521633632648:=()
def tw7223558892620471382:=()
def tw4435315467231049644:=()
def tw13961516604798391108:=()
def tw2514467367276202938:=()
def tw15953900268626303756:=()
def tw3079699528828640082:=()
def tw6735920731125247291:=()
def tw17781723464152577446:=()
def tw6366536089350511554:=()
def tw3903435524018156122:=()
def tw6420301788686787939:=()
def tw745327034773888931:=()
def tw10986210923375044891:=()
def tw12421832052781332594:=()
def tw13814633356408220924:=()
def tw3030587968263368921:=()
def tw6009509076768337789:=()
def tw1546316743830333894:=()
def tw522262250703276312:=()
def tw9094687390774508881:=()
def tw3392990177828237820:=()
def tw10720862081241084288:=()
def tw3384132402868289214:=()
def tw6129194588221966913:=()
def tw2697541603364108637:=()
def tw12863356960351617854:=()
def tw4281590415685301660:=()
def tw18243231177833337487:=()
def tw9568145780615352397:=()
def tw13085035399857538373:=()
def tw3170261662185792126:=()
def tw5774142918781632888:=()
def tw17771011637650018980:=()
def tw18043188152827508301:=()
def tw1777227523632132468:=()
def tw9732996023028071921:=()
def tw17880705739900560659:=()
def tw16491215061711683894:=()
def tw7574607342247422605:=()
def tw14446614106334802431:=()
def tw208409463248086652:=()
def tw7797823279136194590:=()
def tw11400523428227171151:=()
def tw17673935588375632531:=()
def tw13614704747764295443:=()
def tw7178828427941232080:=()
def tw9984468103406693577:=()
def tw15484306740188495210:=()
def tw14111690093975497824:=()
def tw4015227913868895809:=()
def tw11207485804166585579:=()
def tw1480928179158670618:=()
def tw15443509661667264710:=()
def tw12289888053642757428:=()
def tw5369460188163704653:=()
def tw4934001981661994577:=()
def tw5066217376058484556:=()
def tw4134628666441751030:=()
def tw9042114095281964818:=()
def tw7545647043181791761:=()
def tw15271245756181053620:=()
def tw5832285170285432582:=()
def tw10842408954953834363:=()
def tw2789228955193609205:=()
def tw9349461049121813576:=()
def tw6963484316759665613:=()
def tw16980839826178354827:=()
def tw5177897140043029345:=()
def tw3372666809201448047:=()
def tw3195063020529668929:=()
def tw1824781195630863612:=()
def tw1952235842325998004:=()
def tw9127778709051956626:=()
def tw15616114915035670848:=()
def tw9150935192951946396:=()
def tw12182309027066966399:=()
def tw12855646074932593416:=()
def tw1943994103405235405:=()
def tw6515642044940301102:=()
def tw13687999823123478917:=()
def tw3236276440955192271:=()
def tw10152604314891450934:=()
def tw4898277783033715614:=()
def tw7853143895122613333:=()
def tw14135035552771148969:=()
def tw8580188424279362399:=()
def tw8121096074225190595:=()
def tw3981859501963697880:=()
def tw9603396820609107588:=()
def tw2908474597424507874:=()
def tw14197635538256728313:=()
def tw13902773882813706385:=()
def tw14125496625782410361:=()
def tw7871631569547384884:=()
def tw781502910595283196:=()
def tw12088590014316983400:=()
def tw6495280387758640911:=()
def tw1973795727718325735:=()
def tw3747225939341490413:=()
def tw16186508417556561472:=()
def tw7249327681878642984:=()
def tw18212807698372076217:=()
def tw13151281375311316257:=()
def tw8108152397943710470:=()
def tw15780017462236875590:=()
def tw12451201476307296547:=()
def tw15103963458240173848:=()
def tw11167319860983697563:=()
def tw10344069538445669027:=()
def tw15797313436936814409:=()
def tw204444877084830016:=()
def tw3183465735992242219:=()
def tw15873068513526207301:=()
def tw16436445703038828994:=()
def tw17418882201233757378:=()
def tw9268106078054593917:=()
def tw15413694930797765750:=()
def tw3801704866616935369:=()
def tw17587343631299806984:=()
def tw4966364924585813073:=()
def tw988612459404774390:=()
def tw7703065343788816912:=()
def tw8400787602834305579:=()
def tw17715118597082340316:=()
def tw15335639434377368395:=()
def tw12547785346047558765:=()
def tw9520639000048112224:=()
def tw6871967048493700421:=()
def tw12156298659017040767:=()
def tw12900663013420639552:=()
def tw8264581546809955429:=()
def tw3436100323116152748:=()
def tw10216209312618910027:=()
def tw3605338146629514504:=()
def tw7259553358408078241:=()
def tw15846335572762331437:=()
def tw16572730502266198429:=()
def tw14830469437724420069:=()
def tw18266828370501855247:=()
def tw1555325187330084617:=()
def tw7133164549547908347:=()
def tw12675272677874658729:=()
def tw15919122261128296975:=()
def tw278911728144249214:=()
def tw17090934987442078947:=()
def tw5749352614566080908:=()
def tw10553208082173517676:=()
def tw15225446120068850339:=()
def tw6137668009972533884:=()
def tw8774985560289787992:=()
def tw9547559940496505369:=()
def tw12462240676899989273:=()
def tw270445806592143150:=()
def tw13507033245798634053:=()
def tw1143192322011975272:=()
def tw12663782885861685508:=()
def tw17850132195452415992:=()
def tw8362126720393083126:=()
def tw13597893604726384401:=()
def tw18407948797803319303:=()
def tw14704179805350594771:=()
def tw16236741628615051407:=()
def tw5934997554764400023:=()
def tw2735731158188408481:=()
def tw17177867308803520719:=()
def tw1681271880802791697:=()
def tw5124636379898122599:=()
def tw15639188787815476416:=()
def tw18307348363006211304:=()
def tw17512742249870151310:=()
def tw8174205778610140012:=()
def tw3508759046648484409:=()
def tw10005465558205003340:=()
def tw14567510596548113495:=()
def tw13142055101769041128:=()
def tw10551889946810641940:=()
def tw4169463080370093041:=()
def tw717937697929011432:=()
def tw8252028365094771898:=()
def tw3980000767871368175:=()
def tw11219882144522026986:=()
def tw9026903349487483689:=()
def tw15595616081304161308:=()
def tw7996678109667939738:=()
def tw1823376898476321325:=()
def tw13793348626922703493:=()
def tw11890990320322944662:=()
def tw12575279659145118185:=()
def tw35648409226676362:=()
def tw15303584756688091407:=()
def tw13768239434712892806:=()
def tw18444821054796339606:=()
def tw8076467220707892535:=()
def tw11657437494203589075:=()
def tw18063958118461366878:=()
def tw9672932846661379897:=()
def tw5143842347814011482:=()
def tw8146963735283189158:=()
def tw8639947441570607526:=()
def tw1760785768653312911:=()
def tw6822957667478977434:=()
def tw2965212996951565428:=()
def tw17079464998195785486:=()
def tw13379857662145362141:=()
def tw14079037296708696062:=()
def tw15061703127546176031:=()
def tw2795929484854393879:=()
def tw11018491273174509128:=()
def tw7014385262508666260:=()
def tw1191271875457289564:=()
def tw14702069184930105570:=()
def tw4292174426038036905:=()
def tw5106101303917823520:=()
def tw1407947561105343400:=()
def tw11393460330159951948:=()
def tw164400657236518495:=()
def tw3433684684814340266:=()
def tw16050898057711851262:=()
def tw12996293285422900869:=()
def tw13861209763718648798:=()
def tw12890255007419458892:=()
def tw158045858789624616:=()
def tw8000915949541731226:=()
def tw1298000635777397475:=()
def tw174330567084366247:=()
def tw2715952859544191139:=()
def tw3844291500532994149:=()
def tw15568053448052707866:=()
def tw16770475785479927297:=()
def tw17188823050794723454:=()
def tw14452262781215543503:=()
def tw14838391493149830233:=()
def tw9931227700998965887:=()
def tw6133760081438998638:=()
def tw3712545838307200436:=()
def tw14847936919956799491:=()
def tw7168869878996116157:=()
def tw4303884625523623119:=()
def tw12533649765074527887:=()
def tw14625246973508495810:=()
def tw11561826507598464271:=()
def tw1570172908118943054:=()
def tw5318386142165106846:=()
def tw4383377691348082566:=()
def tw15614917636300674777:=()
def tw18230248715230342470:=()
def tw13109637071408578821:=()
def tw13891016786011044:=()
def tw1175009141096131001:=()
def tw5536122983593130729:=()
def tw2465834426130214446:=()
def tw2942392017191620506:=()
def tw8125871276603357819:=()
def tw4673278704882759387:=()
def tw11415234807718118630:=()
def tw4594082932448458810:=()
def tw5489606892494221942:=()
def tw17544199740981000153:=()
def tw13330512961630151173:=()
def tw15509688502132044448:=()
def tw7014816070708417510:=()
def tw16213736255098290440:=()
def tw9751137204011773603:=()
def tw1086559513622598470:=()
def tw16141462930793960039:=()
def tw17205591386356832323:=()
def tw11061442379453410620:=()
def tw9465091808035601421:=()
def tw18098315182239084366:=()
def tw595501740251341048:=()
def tw9726739626925856825:=()
def tw12785555535078239900:=()
def tw2742708030391122274:=()
def tw1948238079542278913:=()
def tw1408604983186777378:=()
def tw10733204023129347560:=()
def tw4121235735046153033:=()
def tw16234642178743540633:=()
def tw12802449978387239060:=()
def tw2507185721169590465:=()
def tw11451147386412427574:=()
def tw2702575439766640637:=()
def tw4275704080021968206:=()
def tw15603517607679818584:=()
def tw17407180035384337526:=()
def tw8892209438751245338:=()
def tw8384337028485216895:=()
def tw12959677708841384318:=()
def tw4267718618604721097:=()
def tw3468179660866693065:=()
def tw15163613783998534491:=()
def tw16845556073068604442:=()
def tw14289921358329137605:=()
def tw9534457017013249119:=()
def tw8910924466645280870:=()
def tw17002205521024424422:=()
def tw15977380979332899001:=()
def tw6788799615941883645:=()
def tw4702368041925063277:=()
def tw4007641830710764195:=()
def tw12057727709939283313:=()
def tw2327598881345987922:=()
def tw10374349535290367926:=()
def tw5730044364639982081:=()
def tw820882100006748451:=()
def tw225007536998142228:=()
def tw2999942735970220895:=()
def tw5524376107203486826:=()
def tw1698228479317961071:=()
def tw10878903889473171572:=()
def tw12339401582704789135:=()
def tw8119329627198350245:=()
def tw15091134179054729400:=()
def tw17506251506115525533:=()
def tw2380355244623353143:=()
def tw11020240406047222536:=()
def tw14592782235281681318:=()
def tw17695477386336658927:=()
def tw11066967309419620840:=()
def tw3831085837235973687:=()
def tw6267497902565264562:=()
def tw13389576815322145412:=()
def tw17202219510548532491:=()
def tw9371189945906847322:=()
def tw2925246382106490798:=()
def tw17064724087701227300:=()
def tw11048843934219232259:=()
def tw12492058483021475513:=()
def tw5913815355432993630:=()
def tw18340422878430312164:=()
def tw3644626750030699555:=()
def tw6495303368982684052:=()
def tw14662119442759714036:=()
def tw3501309093863236805:=()
def tw6095318028306121961:=()
def tw9213045126698749862:=()
def tw17600455386097912429:=()
def tw6102021965291855924:=()
def tw6061451834599124033:=()
def tw17668917569371095292:=()
def tw5275496203049855087:=()
def tw2542687211893073293:=()
def tw528006582729738490:=()
def tw5989328005295818642:=()
def tw11604258827791274135:=()
def tw18350285491741345635:=()
def tw8136156069758834292:=()
def tw2486736577986853231:=()
def tw11242605263872300485:=()
def tw17104798190404724415:=()
def tw711089608835887846:=()
def tw3818328988740241273:=()
def tw4627367366101489654:=()
def tw8309290911012806154:=()
def tw11312179763655256163:=()
def tw5607642784583030660:=()
def tw6994965138235096341:=()
def tw10646358024015251604:=()
def tw14549940757578556511:=()
def tw5869937521174710070:=()
def tw5351898387430908074:=()
end PySem.W.Fast
section
set_option maxHeartbeats 0
open PySem PySem.W PyProof.Rows
open_top PySem.Challenge.op86 for PySem.Challenge.rw_tastesbook_k86_desk_refuses
end
namespace L2
open PySem PySem.Spec PyProof.Rows
abbrev Key:=Sum Int Str
def Zfz:Key->Value->Bool
 | .inl k,v=>Value.isInt k v
 | .inr x,v=>Value.isStrOf x v
def keyH (w:World):Key->Int
 | .inl k=>hashInt k
 | .inr x=>hashStr w x
theorem Qk:∀ {k:Key} {v:Value},Zfz k v=true->(∃ i t,k=Sum.inl i/\v=Value.int i t)\/(∃ x t,k=Sum.inr x/\v=Value.str x t)
 | .inl i,v,h=>by
   obtain ⟨t,e⟩:=Value.isInt_shape (k:=i) (v:=v) h
   exact .inl ⟨i,t,rfl,e⟩
 | .inr x,v,h=>by
   obtain ⟨t,e⟩:=Value.isStrOf_shape (x:=x) (v:=v) h
   exact .inr ⟨x,t,rfl,e⟩
theorem Zwe (i:Int) (t:Tok):Zfz (.inl i) (.int i t)=true:=by simp [Zfz,Value.isInt]
theorem Zwd (x:Str) (t:Tok):Zfz (.inr x) (.str x t)=true:=by simp [Zfz,Value.isStrOf]
theorem Z2n (a b:Int):decide ((Sum.inl a:Key)=Sum.inl b)=(a == b):=by
 by_cases e:a=b
 · subst e; simp
 · have h:¬ (Sum.inl a:Key)=Sum.inl b:=λ q=>e (Sum.inl.inj q)
   rw [decide_eq_false h]
   exact (beq_eq_false_iff_ne.mpr e).symm
theorem Zwc (a b:Str):decide ((Sum.inr a:Key)=Sum.inr b)=decide (a=b):=by
 by_cases e:a=b
 · subst e; simp
 · have h:¬ (Sum.inr a:Key)=Sum.inr b:=λ q=>e (Sum.inr.inj q)
   rw [decide_eq_false h,decide_eq_false e]
theorem Z2m (a:Int) (b:Str):decide ((Sum.inl a:Key)=Sum.inr b)=false:=decide_eq_false (λ q=>nomatch q)
theorem Z2l (a:Str) (b:Int):decide ((Sum.inr a:Key)=Sum.inl b)=false:=decide_eq_false (λ q=>nomatch q)
def Yy (prog:Program) (w:World):PySem.KeyKind prog w Key where
 is:=Zfz
 hash:=keyH w
 inj:=λ v a b ha hb=>by
  rcases Qk ha with ⟨i,t,rfl,rfl⟩ | ⟨x,t,rfl,rfl⟩
  · rcases Qk hb with ⟨j,u,rfl,e⟩ | ⟨y,u,rfl,e⟩
    · injection e with e1 _; rw [e1]
    · exact nomatch e
  · rcases Qk hb with ⟨j,u,rfl,e⟩ | ⟨y,u,rfl,e⟩
    · exact nomatch e
    · injection e with e1 _; rw [e1]
 byValue:=λ k v h=>by
  rcases Qk h with ⟨i,t,rfl,rfl⟩ | ⟨x,t,rfl,rfl⟩ <;> rfl
 pyHash:=λ hv h=>by
  rcases Qk hv with ⟨i,t,rfl,rfl⟩ | ⟨x,t,rfl,rfl⟩
  · exact wpAny_pyHash_int h
  · exact wpAny_pyHash_str h
 eqBool:=λ hu hv h=>by
  rcases Qk hu with ⟨i,t,rfl,rfl⟩ | ⟨x,t,rfl,rfl⟩
  · rcases Qk hv with ⟨j,u,rfl,rfl⟩ | ⟨y,u,rfl,rfl⟩
    · rw [Z2n] at h; exact wpAny_eqBool_int h
    · rw [Z2m] at h; exact SeqAt.EqAt.int_str i t y u _ _ _ _ h
  · rcases Qk hv with ⟨j,u,rfl,rfl⟩ | ⟨y,u,rfl,rfl⟩
    · rw [Z2l] at h; exact SeqAt.EqAt.str_int x t j u _ _ _ _ h
    · rw [Zwc] at h; exact wpAny_eqBool_str h
 «strs»:=λ k x t v h=>by
  rcases Qk h with ⟨i,u,rfl,e⟩ | ⟨y,u,rfl,e⟩
  · exact nomatch e
  · injection e with e1 _
    subst e1
    cases v <;> rfl
theorem Zkq (prog:Program) (w:World) (k:Key) (v:Value):(Yy prog w).is k v=Zfz k v:=rfl
theorem Zr9 (prog:Program) (w:World) (i:Int) (t:Tok):(Yy prog w).is (.inl i) (.int i t)=true:=Zwe i t
theorem Zr8 (prog:Program) (w:World) (x:Str) (t:Tok):(Yy prog w).is (.inr x) (.str x t)=true:=Zwd x t
end L2
namespace L2
open PySem PySem.Spec PyProof.Rows
inductive V where
 | non | bl (b:Bool) | int (i:Int) | str (x:Str) | byt (b:Array UInt8) | flt (b:UInt64) | ref (a:Addr) | ty (n:String)
 deriving DecidableEq
def RelV:V->Value->Prop
 | .non,u=>u=Value.none
 | .bl b,u=>u=Value.bool b
 | .int i,u=>∃ t,u=Value.int i t
 | .str x,u=>∃ t,u=Value.str x t
 | .byt b,u=>∃ t,u=Value.bytes b t
 | .flt b,u=>∃ t,u=Value.float b t
 | .ref a,u=>u=Value.ref a
 | .ty n,u=>u=Value.type n
abbrev Vals:List V->List Value->Prop:=Paired RelV
theorem Vals.length {xs:List V} {us:List Value} (r:Vals xs us):xs.length=us.length:=Paired.length r
theorem Vals.get:∀ {xs:List V} {us:List Value} {i:Nat} {x:V},Vals xs us->xs[i]?=some x->∃ u,us[i]?=some u/\RelV x u
 | _,_,_,_,.nil,e=>by simp at e
 | _,_,0,_,.cons r _,e=>by simp at e; subst e; exact ⟨_,rfl,r⟩
 | _,_,i+1,x,.cons _ t,e=>by
   obtain ⟨u,h1,h2⟩:=Vals.get (i:=i) (x:=x) t (by simpa using e)
   exact ⟨u,by simpa using h1,h2⟩
theorem Vals.set {x:V} {u:Value} (r:RelV x u):∀ {xs:List V} {us:List Value} (i:Nat),Vals xs us->Vals (xs.set i x) (us.set i u)
 | _,_,_,.nil=>.nil
 | _,_,0,.cons _ t=>.cons r t
 | _,_,i+1,.cons q t=>.cons q (Vals.set r i t)
theorem Vals.append:∀ {xs ys:List V} {us ws:List Value},Vals xs us->Vals ys ws->Vals (xs++ys) (us++ws)
 | _,_,_,_,.nil,s=>s
 | _,_,_,_,.cons r t,s=>.cons r (Vals.append t s)
theorem Vals.take:∀ {xs:List V} {us:List Value} (n:Nat),Vals xs us->Vals (xs.take n) (us.take n)
 | _,_,0,_=>.nil
 | _,_,_+1,.nil=>.nil
 | _,_,n+1,.cons r t=>.cons r (Vals.take n t)
theorem Vals.drop:∀ {xs:List V} {us:List Value} (n:Nat),Vals xs us->Vals (xs.drop n) (us.drop n)
 | _,_,0,r=>r
 | _,_,_+1,.nil=>.nil
 | _,_,n+1,.cons _ t=>Vals.drop n t
def RelO:Option V->Option Value->Prop
 | some v,some u=>RelV v u
 | none,none=>True
 | _,_=>False
def KV {κ:Type}:List (κ×V)->List (κ×Value)->Prop:=Paired λ (p:κ×V) (q:κ×Value)=>p.1=q.1/\RelV p.2 q.2
def kV:Key->V
 | .inl i=>.int i
 | .inr x=>.str x
inductive HO where
 | lst (xs:List V)
 | tup (xs:List V)
 | dK (kvs:List (Key×V)) | dT (kvs:List (List Key×V))
 | set (S:Int->Bool) (n:Nat)
 | ins (C dx:Addr) (fs:List (Str×V))
 | own (x:Addr)
 | xd (fs:List (Str×V))
 | met (f x:Addr)
 | rng (lo hi:Int)
 | frz (o:Obj) (u:HO)
 | tbl (ps:Array Value)
 | ext (φ:Heap->Prop)
abbrev Hp:=Addr->Option HO
def upd (H:Hp) (a:Addr) (o:HO):Hp:=λ b=>if b=a then some o else H b
theorem Zr {H:Hp} {a:Addr} {o:HO}:upd H a o a=some o:=by unfold upd; rw [if_pos rfl]
theorem Z1 {H:Hp} {a b:Addr} {o:HO} (h:b≠a):upd H a o b=H b:=by unfold upd; rw [if_neg h]
theorem Zec {H:Hp} {a:Addr} {o u:HO}:upd (upd H a o) a u=upd H a u:=by
 funext b; unfold upd; split <;> rfl
theorem Zfy {H:Hp} {a b:Addr} {o u:HO} (h:H a=some o) (h':H b=some u) (d:o≠u):a≠b:=by
 intro e; subst e; rw [h] at h'; exact d (Option.some.inj h')
theorem Qp {H:Hp} {a b:Addr} {o:HO} (h:H a=some o) (h':H b=none):a≠b:=by
 intro e; subst e; rw [h] at h'; cases h'
section
variable (P:Program) (w:World)
def ObjOk (H:Hp) (h:Heap) (a:Addr):HO->Prop
 | .lst xs=>xs.length<=sizeLine/\∃ (its:List Value) (n:Nat),Vals xs its/\h.get? a=some { cls:=.type "list",data:=.seq its.toArray n }
 | .tup xs=>xs.length<=sizeLine/\∃ its:List Value,Vals xs its/\IsTup h a its.toArray
 | .dK kvs=>kvs.length<=sizeLine/\(a == sysModules)=false/\∃ vs,KV kvs vs/\h.DictOf (Yy P w) a vs
 | .dT kvs=>kvs.length<=sizeLine/\(a == sysModules)=false/\∃ xs:List (List Key×Addr×Value),
  Paired (λ (p:List Key×V) (q:List Key×Addr×Value)=>p.1=q.1/\H q.2.1=some (.tup (p.1.map kV))/\RelV p.2 q.2.2) kvs xs /\
  ∃ o es ep,h.get? a=some o/\o.ExactDict/\o.data=.dict es ep/\es.toList=xs.map (entryOfKey (tupleKind (Yy P w)))/\(xs.map (·.1)).Nodup
 | .set S n=>h.SetOf (intKind P w) a S n
 | .ins C dx fs=>H dx=some (.own a)/\fs.length<=1000/\dx≠a/\h.get? a=some (PySem.W.instObj C dx) /\
  ∃ mA,h.Ns1 dx mA/\(∀ f,RelO (fs.lookup f) (mA f))/\PySem.Within mA (fs.map (·.1))
 | .own _=>∃ o,h.get? a=some o
 | .xd fs=>∃ mA,h.Ns1 a mA/\∀ f,RelO (fs.lookup f) (mA f)
 | .rng lo hi=>∃ t u v,h.get? a=some { cls:=.type "range",data:=.fields #[.int lo t,.int hi u,.int 1 v] }
 | .frz o u=>h.get? a=some o/\ObjOk H h a u
 | .tbl ps=>h.get? a=some { cls:=.none,data:=.fields ps }
 | .met f x=>h.get? a=some (PySem.W.methodObj (.ref f) (.ref x))
 | .ext φ=>φ h/\(∃ o,h.get? a=some o)/\∀ h1 h2:Heap,φ h1->(∀ o,h1.get? a=some o->h2.get? a=some o)->φ h2
def HOk (H:Hp) (h:Heap):Prop:=∀ a o,H a=some o->ObjOk P w H h a o
end
section
variable {P:Program} {w:World} {H H':Hp} {h h':Heap} {a:Addr} {o:HO}
theorem ObjOk.lt (x:ObjOk P w H h a o):a<h.objs.size:=by
 cases o with
 | lst xs=>obtain ⟨_,_,_,_,e⟩:=x; exact Heap.lt_size e
 | tup xs=>obtain ⟨_,_,_,p⟩:=x; exact p.lt
 | dK kvs=>obtain ⟨_,_,_,_,o,_,_,e,_⟩:=x; exact Heap.lt_size e
 | dT kvs=>obtain ⟨_,_,_,_,o,_,_,e,_⟩:=x; exact Heap.lt_size e
 | set S n=>obtain ⟨o,_,_,_,e,_⟩:=x; exact Heap.lt_size e
 | ins C dx fs=>obtain ⟨_,_,_,e,_⟩:=x; exact Heap.lt_size e
 | own y=>obtain ⟨_,e⟩:=x; exact Heap.lt_size e
 | xd fs=>obtain ⟨_,⟨_,_,_,e,_⟩,_⟩:=x; exact Heap.lt_size e
 | rng lo hi=>obtain ⟨_,_,_,e⟩:=x; exact Heap.lt_size e
 | frz ob u=>obtain ⟨e,_⟩:=x; exact Heap.lt_size e
 | tbl ps=>exact Heap.lt_size (show h.get? a=some _ from x)
 | met f y=>exact Heap.lt_size (show h.get? a=some _ from x)
 | ext φ=>obtain ⟨_,⟨_,e⟩,_⟩:=x; exact Heap.lt_size e
theorem Paired.mapP {α β:Type} {F G:α->β->Prop}:∀ {l₁:List α} {l₂:List β},Paired F l₁ l₂->(∀ a b,F a b->G a b)->Paired G l₁ l₂
 | _,_,.nil,_=>.nil
 | _,_,.cons r t,f=>.cons (f _ _ r) (Paired.mapP t f)
theorem ObjOk.stay (x:ObjOk P w H h a o) (k:∀ b u,(b=a\/H b=some (.own a))->h.get? b=some u->h'.get? b=some u)
 (ho:∀ b,H b=some (.own a)->H' b=some (.own a)) (ht:∀ b xs,H b=some (.tup xs)->H' b=some (.tup xs)):ObjOk P w H' h' a o:=by
 induction o with
 | lst xs=>obtain ⟨z,its,n,r,e⟩:=x; exact ⟨z,its,n,r,k _ _ (.inl rfl) e⟩
 | tup xs=>obtain ⟨z,its,r,ob,e,c⟩:=x; exact ⟨z,its,r,ob,k _ _ (.inl rfl) e,c⟩
 | dK kvs=>obtain ⟨z,y,vs,r,ob,es,ep,e,c⟩:=x; exact ⟨z,y,vs,r,ob,es,ep,k _ _ (.inl rfl) e,c⟩
 | dT kvs =>
   obtain ⟨z,y,xs,r,ob,es,ep,e,c⟩:=x
   exact ⟨z,y,xs,Paired.mapP r λ p q z=>⟨z.1,ht _ _ z.2.1,z.2.2⟩,ob,es,ep,k _ _ (.inl rfl) e,c⟩
 | set S n=>obtain ⟨ob,es,ep,t,e,c⟩:=x; exact ⟨ob,es,ep,t,k _ _ (.inl rfl) e,c⟩
 | ins C dx fs =>
   obtain ⟨d,z,ne,e,mA,⟨od,es,ep,e2,c⟩,r⟩:=x
   exact ⟨ho _ d,z,ne,k _ _ (.inl rfl) e,mA,⟨od,es,ep,k _ _ (.inr d) e2,c⟩,r⟩
 | own y=>obtain ⟨ob,e⟩:=x; exact ⟨ob,k _ _ (.inl rfl) e⟩
 | xd fs=>obtain ⟨mA,⟨od,es,ep,e,c⟩,r⟩:=x; exact ⟨mA,⟨od,es,ep,k _ _ (.inl rfl) e,c⟩,r⟩
 | rng lo hi=>obtain ⟨t,u,v,e⟩:=x; exact ⟨t,u,v,k _ _ (.inl rfl) e⟩
 | frz ob u ih=>obtain ⟨e,q⟩:=x; exact ⟨k _ _ (.inl rfl) e,ih q⟩
 | tbl ps =>
   have e:h.get? a=some { cls:=.none,data:=.fields ps }:=x
   show h'.get? a=some { cls:=.none,data:=.fields ps }
   exact k a _ (.inl rfl) e
 | met f y =>
   have e:h.get? a=some (PySem.W.methodObj (.ref f) (.ref y)):=x
   show h'.get? a=some (PySem.W.methodObj (.ref f) (.ref y))
   exact k a _ (.inl rfl) e
 | ext φ=>obtain ⟨p,⟨o,e⟩,st⟩:=x; exact ⟨st _ _ p λ o q=>k _ _ (.inl rfl) q,⟨o,k _ _ (.inl rfl) e⟩,st⟩
theorem HOk.lt (x:HOk P w H h) (e:H a=some o):a<h.objs.size:=(x a o e).lt
theorem HOk.fresh (x:HOk P w H h) (e:h.objs.size<=a):H a=none:=by
 cases q:H a with
 | none=>rfl
 | some u=>exact absurd (Nat.lt_of_lt_of_le (x.lt q) e) (Nat.lt_irrefl _)
theorem HOk.kept (x:HOk P w H h) (k:∀ b u,h.get? b=some u->h'.get? b=some u):HOk P w H h':=λ a o e =>
 (x a o e).stay (λ b u _ q=>k b u q) (λ _ q=>q) λ _ _ q=>q
theorem HOk.laid (x:HOk P w H h) (k:∀ b u,h.get? b=some u->h'.get? b=some u) (hp:h.objs.size<=a) (new:ObjOk P w (upd H a o) h' a o):HOk P w (upd H a o) h':=λ b u e=>by
 have hn:=x.fresh hp
 by_cases hb:b=a
 · subst hb; rw [Zr] at e; cases e; exact new
 · rw [Z1 hb] at e
   exact (x b u e).stay (λ c v _ q=>k c v q) (λ c q=>by rw [Z1 (Qp q hn)]; exact q) λ c xs q=>by rw [Z1 (Qp q hn)]; exact q
end
def Rd (H:Hp) (a:Addr) (u:HO):Prop:=H a=some u\/∃ o,H a=some (.frz o u)
theorem Rd.ok {P:Program} {w:World} {H:Hp} {h:Heap} {a:Addr} {u:HO} (r:Rd H a u) (x:HOk P w H h):ObjOk P w H h a u:=by
 rcases r with r | ⟨o,r⟩
 · exact x a u r
 · obtain ⟨_,q⟩:=x a _ r
   exact q
def Mut:Option HO->Prop
 | some (.lst _)=>True
 | some (.dK _)=>True
 | some (.dT _)=>True
 | some (.set _ _)=>True
 | some (.ins _ _ _)=>True
 | some (.ext _)=>True
 | _=>False
section
variable {P:Program} {w:World} {H:Hp} {h h':Heap} {x e:Addr} {o':HO}
theorem HOk.write (ok:HOk P w H h) (mu:Mut (H x)) (he:e=x\/H e=some (.own x)) (k:∀ b u,b≠e->h.get? b=some u->h'.get? b=some u) (heo:∃ u,h'.get? e=some u)
 (new:ObjOk P w (upd H x o') h' x o'):HOk P w (upd H x o') h':=λ b u q=>by
 have nown:∀ c y,H c=some (.own y)->c≠x:=λ c y r z=>by subst z; rw [r] at mu; exact mu
 have ntup:∀ c xs,H c=some (.tup xs)->c≠x:=λ c xs r z=>by subst z; rw [r] at mu; exact mu
 by_cases hb:b=x
 · subst hb; rw [Zr] at q; cases q; exact new
 · rw [Z1 hb] at q
   by_cases hbe:b=e
   · have q':H b=some (.own x):=by
      rcases he with z | z
      · exact absurd (hbe.trans z) hb
      · rw [hbe]; exact z
     rw [q] at q'; cases q'
     obtain ⟨v,hv⟩:=heo
     exact ⟨v,by rw [hbe]; exact hv⟩
   · refine (ok b u q).stay (λ c v hc r=>k c v ?_ r) (λ c r=>by rw [Z1 (nown c b r)]; exact r) λ c xs r=>by rw [Z1 (ntup c xs r)]; exact r
     rcases hc with rfl | hc
     · exact hbe
     · rintro rfl
       rcases he with z | z
       · exact nown c b hc z
       · rw [hc] at z; cases z; exact hb rfl
end
structure Un (fs ex:List Addr) (H H':Hp) (h h':Heap):Prop where
 keep:∀ b o,h.get? b=some o->H b=none->b ∉ fs->b ∉ ex->h'.get? b=some o
 slot:∀ b o,h.get? b=some o->H b=none->b∈fs->b ∉ ex->∃ sl,h'.get? b=some { o with slots:=sl }
 free:∀ b o,h.get? b=some o->H b=none->b ∉ ex->H' b=none
 there:∀ b o,h.get? b=some o->b ∉ ex->∃ o',h'.get? b=some o'
 tups:∀ b xs,H b=some (.tup xs)->H' b=some (.tup xs)
 frzs:∀ b o u,H b=some (.frz o u)->H' b=some (.frz o u)
 tbls:∀ b ps,H b=some (.tbl ps)->∃ more,H' b=some (.tbl (ps++more))
section
variable {fs fs' ex ex':List Addr} {H H1 H2:Hp} {h h1 h2 h':Heap} {a x e:Addr} {o:HO}
theorem Un.any (u:Un fs ex H H1 h h1) {b:Addr} {ob:Obj} (q:h.get? b=some ob) (n:H b=none) (hx:b ∉ ex):∃ sl,h1.get? b=some { ob with slots:=sl }:=by
 by_cases hb:b∈fs
 · exact u.slot b ob q n hb hx
 · exact ⟨ob.slots,u.keep b ob q n hb hx⟩
theorem Un.kept (k:∀ b u,h.get? b=some u->h'.get? b=some u):Un fs ex H H h h' :=
 ⟨λ b ob q _ _ _=>k b ob q,λ b ob q _ _ _=>⟨ob.slots,k b ob q⟩,λ _ _ _ n _=>n,λ b ob q _=>⟨ob,k b ob q⟩,λ _ _ q=>q,λ _ _ _ q=>q,λ _ ps q=>⟨#[],by rw [q]; simp⟩⟩
theorem Un.refl:Un fs ex H H h h:=Un.kept λ _ _ q=>q
theorem Un.laid (k:∀ b u,h.get? b=some u->h'.get? b=some u) (hp:h.objs.size<=a) (hn:H a=none):Un fs ex H (upd H a o) h h' where
 keep:=λ b u q _ _ _=>k b u q
 slot:=λ b u q _ _ _=>⟨u.slots,k b u q⟩
 free:=λ b u q n _=>by rw [Z1 (Nat.ne_of_lt (Nat.lt_of_lt_of_le (Heap.lt_size q) hp))]; exact n
 there:=λ b u q _=>⟨u,k b u q⟩
 tups:=λ b xs q=>by rw [Z1 (Qp q hn)]; exact q
 frzs:=λ b u xs q=>by rw [Z1 (Qp q hn)]; exact q
 tbls:=λ b ps q=>⟨#[],by rw [Z1 (Qp q hn),q]; simp⟩
theorem Un.write (mu:Mut (H x)) (he:e=x\/H e=some (.own x)) (k:∀ b u,b≠e->h.get? b=some u->h'.get? b=some u) (heo:∃ u,h'.get? e=some u):Un fs ex H (upd H x o) h h':=by
 have hx:∀ b,H b=none->b≠x:=λ b n z=>by subst z; rw [n] at mu; exact mu
 have hb:∀ b,H b=none->b≠e:=λ b n z=>by
  subst z
  rcases he with r | r
  · exact hx b n r
  · rw [n] at r; cases r
 have hm:∀ b u,H b=some u->¬ Mut (some u)->b≠x:=λ b u q nm z=>by subst z; rw [q] at mu; exact nm mu
 refine ⟨λ b u q n _ _=>k b u (hb b n) q,λ b u q n _ _=>⟨u.slots,k b u (hb b n) q⟩,λ b u q n _=>by rw [Z1 (hx b n)]; exact n,λ b u q _=>?_,
  λ b xs q=>by rw [Z1 (hm b _ q λ z=>z)]; exact q,λ b u xs q=>by rw [Z1 (hm b _ q λ z=>z)]; exact q,λ b ps q=>⟨#[],by rw [Z1 (hm b _ q λ z=>z),q]; simp⟩⟩
 by_cases hbe:b=e
 · subst hbe; exact heo
 · exact ⟨u,k b u hbe q⟩
end
def trk (h:Heap) (H:Hp):List Addr:=(List.range h.objs.size).filter λ a=>(H a).isSome
def hidT (h:Heap) (H:Hp):Heap:=PySem.W.hideAll h (trk h H)
theorem Zwo (h:Heap) (H:Hp):(hidT h H).objs.size=h.objs.size:=PySem.W.hideAll_size _ _
theorem Zyi {h:Heap} {H:Hp} {b:Addr} {o:Obj} (e:h.get? b=some o) (n:H b=none):(hidT h H).get? b=some o :=
 PySem.W.hideAll_get _ e λ hm=>by
  have q:(H b).isSome=true:=(List.mem_filter.mp hm).2
  rw [n] at q; simp at q
theorem Z0k {h:Heap} {H:Hp} {b:Addr} {o:Obj} (e:(hidT h H).get? b=some o):h.get? b=some o/\H b=none:=by
 have e':h.get? b=some o:=PySem.W.of_hideAll (trk h H) e
 refine ⟨e',?_⟩
 cases q:H b with
 | none=>rfl
 | some x =>
   have hm:b∈trk h H:=List.mem_filter.mpr ⟨List.mem_range.mpr (Heap.lt_size e'),by simp [q]⟩
   have z:(hidT h H).get? b=none:=PySem.W.hideAll_none (trk h H) hm
   rw [z] at e; cases e
def Z1e (g h:Heap) (L:Addr):List (Addr×Obj):=(List.range h.objs.size).filterMap λ a=>if a=L\/(g.get? a).isSome=true then none else (h.get? a).map λ o=>(a,o)
def rest (g h:Heap) (L d:Addr):List (Addr×Obj):=(Z1e g h L).filter λ p=>decide (p.1≠d)
end L2
namespace L2
open PySem PySem.Spec PyProof.Rows
structure Mod (K:Fq) (mg:Str->Option Value) (base:Heap):Prop where
 kin:K.In base
 glob:base.Ns mainGlobals mg
 blt:∃ mb,base.Ns builtinsNs mb/\∀ x:Str,x≠"__name__"->mb x=bootBuiltins x
 nolimit:base.NoLimit
structure Cx where
 prog:Program
 w:World
 K:Fq
 mg:Str->Option Value
 base:Heap
 A:Around
 N:List Str
 s₀:Shared
 H₀:Hp
 env:Env
 outer:List Env
 stack:List Env
 ex:List Addr
 fn:Str->Bool
 calm:Bool
 pn:List (Addr×Obj)
 xe:Value->Shared->Prop
def frs (l:List Env):List Addr:=l.filterMap (·.frame)
abbrev Cx.fs (X:Cx):List Addr:=frs X.outer
def Vis (sc:Scope) (x:Str):Prop:=sc.names.lookup x=some .local\/sc.names.lookup x=some .cell\/sc.names.lookup x=some .free
def Loc (sc:Scope) (x:Str):Prop:=sc.names.lookup x=some .local\/sc.names.lookup x=some .cell
def Look (env:Env) (h:Heap) (m:Str->Option Value) (x:Str) (u:Value):Prop :=
 (env.kindOf x=some .local/\m x=some u)\/((env.kindOf x=some .cell\/env.kindOf x=some .free)/\∃ c,env.cells.lookup x=some c/\h.IsCell c (some u))
structure Cx.Ok (X:Cx):Prop where
 mod:Mod X.K X.mg X.base
 kind:X.env.scope.kind=.function
 glob:X.env.globals=mainGlobals
 blt:X.env.builtins=builtinsNs
 above:X.s₀.heap.objs.size<=X.env.locals
 inj:∀ x y c,X.env.cells.lookup x=some c->X.env.cells.lookup y=some c->x=y
 has:∀ x,(X.env.kindOf x=some .cell\/X.env.kindOf x=some .free)->∃ c,X.env.cells.lookup x=some c
 cab:∀ x c,X.fn x=true->X.env.cells.lookup x=some c->X.s₀.heap.objs.size<=c
 hd:X.calm=true->X.A.handled=none
 frames:X.A.frames=some X.stack
 stk:X.stack=X.outer\/(X.stack=X.env::X.outer/\X.env.frame=some X.env.locals)
 exf:∀ b∈X.ex,b≠X.env.locals/\∀ x c,X.env.cells.lookup x=some c->c≠b
 bs:∀ b o,X.base.get? b=some o->X.s₀.heap.get? b=some o/\X.H₀ b=none
 bsz:X.base.objs.size<=X.s₀.heap.objs.size
 noex:∀ b o,X.base.get? b=some o->b ∉ X.ex
 exfs:∀ b∈X.ex,b ∉ X.fs
 funs:X.s₀.heap.FunFrames X.base X.outer
 frf:∀ b∈X.fs,X.H₀ b=none
structure Inv (X:Cx) (pins:List (Addr×Obj)) (σ:List (Option V)) (H:Hp) (s:Shared):Prop where
 ok:X.Ok
 os:s.os=X.s₀.os
 bare:AllBare s.gens
 base:Un X.fs X.ex X.H₀ H X.s₀.heap s.heap
 loc:∃ m,s.heap.Ns X.env.locals m/\∀ (i:Nat) (x:Str) (v:V),X.N[i]?=some x->σ[i]?=some (some v)->Vis X.env.scope x->∃ u,RelV v u/\Look X.env s.heap m x u
 cell:∀ x c,X.env.cells.lookup x=some c->∃ v,s.heap.IsCell c v
 free:H X.env.locals=none
 freeC:∀ x c,X.env.cells.lookup x=some c->H c=none
 pin:∀ p∈X.pn++pins,s.heap.get? p.1=some p.2/\H p.1=none/\p.1≠X.env.locals/\p.1 ∉ X.fs/\∀ v,p.2.data≠.cell v
 hok:HOk X.prog X.w H s.heap
 len:σ.length=X.N.length
section
variable {X:Cx} {pins:List (Addr×Obj)} {σ:List (Option V)} {H H':Hp} {s:Shared} {h':Heap}
theorem Cx.Ok.nofr (ok:X.Ok) {b:Addr} {o:Obj} (e:X.base.get? b=some o):b ∉ X.fs:=λ hb=>by
 have:=(ok.funs.mem hb).1
 rw [e] at this; cases this
theorem Inv.bs (I:Inv X pins σ H s):∀ b o,X.base.get? b=some o->s.heap.get? b=some o/\H b=none:=λ b o e =>
 ⟨I.base.keep b o (I.ok.bs b o e).1 (I.ok.bs b o e).2 (I.ok.nofr e) (I.ok.noex b o e),I.base.free b o (I.ok.bs b o e).1 (I.ok.bs b o e).2 (I.ok.noex b o e)⟩
theorem Inv.bk (I:Inv X pins σ H s):∀ b o,X.base.get? b=some o->s.heap.get? b=some o:=λ b o e=>(I.bs b o e).1
theorem Inv.mod (I:Inv X pins σ H s):Mod X.K X.mg X.base:=I.ok.mod
theorem Inv.kIn (I:Inv X pins σ H s):X.K.In s.heap:=I.ok.mod.kin.keeps I.bk
theorem Inv.lt (I:Inv X pins σ H s):X.env.locals<s.heap.objs.size:=let ⟨_,hn,_⟩:=I.loc; hn.lt
theorem Inv.sz (I:Inv X pins σ H s):X.s₀.heap.objs.size<=s.heap.objs.size:=Nat.le_trans I.ok.above (Nat.le_of_lt I.lt)
theorem Inv.nofs (I:Inv X pins σ H s) {a:Addr} (h:s.heap.objs.size<=a):a ∉ X.fs:=λ hb=>by
 obtain ⟨_,o,ho,_⟩:=I.ok.funs.mem hb
 exact absurd (Nat.lt_of_lt_of_le (Heap.lt_size ho) (Nat.le_trans I.sz h)) (Nat.lt_irrefl _)
theorem Inv.cne (I:Inv X pins σ H s):∀ x c,X.env.cells.lookup x=some c->c≠X.env.locals:=λ x c e z=>by
 obtain ⟨v,o,ho,hd⟩:=I.cell x c e
 obtain ⟨m,⟨o',es,ep,ho',hd',_⟩,_⟩:=I.loc
 rw [z,ho'] at ho; cases ho; rw [hd'] at hd; cases hd
theorem Inv.funs (I:Inv X pins σ H s):s.heap.FunFrames X.base X.outer:=by
 have all:∀ (l:List Env),(∀ b∈frs l,b∈X.fs)->X.s₀.heap.FunFrames X.base l->s.heap.FunFrames X.base l:=by
  intro l
  induction l with
  | nil=>intro _ _; trivial
  | cons env r ih =>
    intro hs hl
    obtain ⟨hk,⟨L,o,hf,hn,ho,hd⟩,hr⟩:=hl
    have hL:L∈X.fs:=hs L (by unfold frs; rw [List.filterMap_cons,hf]; exact List.mem_cons_self)
    obtain ⟨sl,e⟩:=I.base.slot L o ho (I.ok.frf L hL) hL λ z=>I.ok.exfs L z hL
    exact ⟨hk,⟨L,_,hf,hn,e,hd⟩,ih (λ b hb=>hs b (by unfold frs; rw [List.filterMap_cons,hf]; exact List.mem_cons_of_mem _ hb)) hr⟩
 exact all X.outer (λ _ hb=>hb) I.ok.funs
theorem Inv.stack (I:Inv X pins σ H s):s.heap.FunFrames X.base X.stack:=by
 rcases I.ok.stk with e | ⟨e,hf⟩
 · rw [e]; exact I.funs
 · rw [e]
   obtain ⟨m,hn,_⟩:=I.loc
   refine .cons (by rw [I.ok.kind]; decide) hf hn ?_ I.funs
   exact Heap.get?_none_of_le (Nat.le_trans I.ok.bsz I.ok.above)
theorem Inv.stkSub (I:Inv X pins σ H s):∀ b∈frs X.stack,b∈X.env.locals::X.fs:=λ b hb=>by
 rcases I.ok.stk with e | ⟨e,hf⟩
 · rw [e] at hb; exact List.mem_cons_of_mem _ hb
 · rw [e] at hb
   unfold frs at hb
   rw [List.filterMap_cons,hf] at hb
   exact hb
theorem Inv.stkFree (I:Inv X pins σ H s):∀ b∈frs X.stack,H b=none:=λ b hb=>by
 rcases List.mem_cons.mp (I.stkSub b hb) with e | hb
 · rw [e]; exact I.free
 · obtain ⟨_,o,ho,_⟩:=I.ok.funs.mem hb
   exact I.base.free b o ho (I.ok.frf b hb) λ z=>I.ok.exfs b z hb
theorem Inv.step {g':Array GenState} {t':Nat} {d':Drawn} {ch:List Addr} (I:Inv X pins σ H s)
 (hch:∀ b∈ch,(b∈X.ex\/X.s₀.heap.objs.size<=b)/\b≠X.env.locals/\(∀ x c,X.env.cells.lookup x=some c->c≠b)/\∀ p∈X.pn++pins,p.1≠b)
 (keep:∀ b o,b≠X.env.locals->b ∉ X.fs->b ∉ ch->s.heap.get? b=some o->H b=none->h'.get? b=some o)
 (slot:∀ b o,b≠X.env.locals->b∈X.fs->b ∉ ch->s.heap.get? b=some o->H b=none->∃ sl,h'.get? b=some { o with slots:=sl }) (free:∀ b o,b ∉ ch->s.heap.get? b=some o->H b=none->H' b=none)
 (there:∀ b o,b ∉ ch->s.heap.get? b=some o->∃ o',h'.get? b=some o')
 (tups:∀ b xs,H b=some (.tup xs)->H' b=some (.tup xs)) (frzs:∀ b o u,H b=some (.frz o u)->H' b=some (.frz o u)) (tbls:∀ b ps,H b=some (.tbl ps)->∃ more,H' b=some (.tbl (ps++more)))
 (ns:∀ m,s.heap.Ns X.env.locals m->h'.Ns X.env.locals m) (hok:HOk X.prog X.w H' h') (hg:AllBare g') :
 Inv X pins σ H' { s with heap:=h',gens:=g',drawn:=d',toks:=t' }:=by
 have neL:∀ b o,X.s₀.heap.get? b=some o->b≠X.env.locals:=λ b o e=>Nat.ne_of_lt (Nat.lt_of_lt_of_le (Heap.lt_size e) I.ok.above)
 have neC:∀ b o,X.s₀.heap.get? b=some o->b ∉ X.ex->b ∉ ch:=λ b o e hx hb=>by
  rcases (hch b hb).1 with z | z
  · exact hx z
  · exact absurd (Nat.lt_of_lt_of_le (Heap.lt_size e) z) (Nat.lt_irrefl _)
 have cellK:∀ x c,X.env.cells.lookup x=some c->∀ v,s.heap.IsCell c v->h'.IsCell c v:=λ x c e v ⟨o,ho,hd⟩=>by
  have nch:c ∉ ch:=λ z=>(hch c z).2.2.1 x c e rfl
  by_cases hc:c∈X.fs
  · obtain ⟨sl,q⟩:=slot c o (I.cne x c e) hc nch ho (I.freeC x c e)
    exact ⟨_,q,hd⟩
  · exact ⟨o,keep c o (I.cne x c e) hc nch ho (I.freeC x c e),hd⟩
 refine ⟨I.ok,I.os,hg,⟨λ b o e n hb hx=>?_,λ b o e n hb hx=>?_,λ b o e n hx=>?_,λ b o e hx=>?_,λ b xs e=>tups b xs (I.base.tups b xs e),λ b o xs e=>frzs b o xs (I.base.frzs b o xs e),λ b ps e=>?_⟩,?_,λ x c e=>?_,?_,λ x c e=>?_,λ p hp=>?_,hok,I.len⟩
 · exact keep b o (neL b o e) hb (neC b o e hx) (I.base.keep b o e n hb hx) (I.base.free b o e n hx)
 · obtain ⟨sl,e1⟩:=I.base.slot b o e n hb hx
   obtain ⟨sl',e2⟩:=slot b _ (neL b o e) hb (neC b o e hx) e1 (I.base.free b o e n hx)
   exact ⟨sl',e2⟩
 · obtain ⟨o',e1⟩:=I.base.there b o e hx
   exact free b o' (neC b o e hx) e1 (I.base.free b o e n hx)
 · obtain ⟨o',e1⟩:=I.base.there b o e hx
   exact there b o' (neC b o e hx) e1
 · obtain ⟨m1,e1⟩:=I.base.tbls b ps e
   obtain ⟨m2,e2⟩:=tbls b _ e1
   exact ⟨m1++m2,by rw [e2,Array.append_assoc]⟩
 · obtain ⟨m,hn,hl⟩:=I.loc
   refine ⟨m,ns m hn,λ i x v e1 e2 e3=>?_⟩
   obtain ⟨u,r,l⟩:=hl i x v e1 e2 e3
   refine ⟨u,r,?_⟩
   rcases l with l | ⟨k,c,e,z⟩
   · exact .inl l
   · exact .inr ⟨k,c,e,cellK x c e _ z⟩
 · obtain ⟨v,z⟩:=I.cell x c e
   exact ⟨v,cellK x c e v z⟩
 · obtain ⟨m,⟨o,_,_,ho,_⟩,_⟩:=I.loc
   exact free _ o (λ z=>(hch _ z).2.1 rfl) ho I.free
 · obtain ⟨v,o,ho,hd⟩:=I.cell x c e
   exact free c o (λ z=>(hch c z).2.2.1 x c e rfl) ho (I.freeC x c e)
 · obtain ⟨e,n,ne,nf,d⟩:=I.pin p hp
   have nch:p.1 ∉ ch:=λ z=>(hch p.1 z).2.2.2 p hp rfl
   exact ⟨keep p.1 p.2 ne nf nch e n,free p.1 p.2 nch e n,ne,nf,d⟩
theorem Inv.un {t':Nat} (I:Inv X pins σ H s) (u:Un X.fs [] H H' s.heap h') (hok:HOk X.prog X.w H' h'):Inv X pins σ H' { s with heap:=h',toks:=t' }:=by
 obtain ⟨m,⟨o,es,ep,ho,r⟩,_⟩:=id I.loc
 obtain ⟨sl,hL⟩:=u.any ho I.free (by simp)
 exact I.step (g':=s.gens) (d':=s.drawn) (ch:=[]) (λ _ z=>nomatch z) (λ b o _ hb _ e n=>u.keep b o e n hb (by simp)) (λ b o _ hb _ e n=>u.slot b o e n hb (by simp)) (λ b o _ e n=>u.free b o e n (by simp)) (λ b o _ e=>u.there b o e (by simp)) u.tups u.frzs u.tbls (λ m' hm=>by
  obtain ⟨o',es',ep',ho',r'⟩:=hm
  rw [ho] at ho'; cases ho'
  exact ⟨_,es',ep',hL,r'⟩) hok I.bare
theorem Inv.call {g':Array GenState} {t':Nat} {d':Drawn} {ch:List Addr} (I:Inv X pins σ H s) (u:Un (frs X.stack) ch H H' s.heap h') (hok:HOk X.prog X.w H' h') (hg:AllBare g')
 (hch:∀ b∈ch,(b∈X.ex\/X.s₀.heap.objs.size<=b)/\b≠X.env.locals/\(∀ x c,X.env.cells.lookup x=some c->c≠b)/\∀ p∈X.pn++pins,p.1≠b) :
 Inv X pins σ H' { s with heap:=h',gens:=g',drawn:=d',toks:=t' }:=by
 obtain ⟨m,⟨o,es,ep,ho,r⟩,_⟩:=id I.loc
 obtain ⟨sl,hL⟩:=u.any ho I.free λ z=>(hch _ z).2.1 rfl
 exact I.step (ch:=ch) hch (λ b o hL hb hc e n=>u.keep b o e n (λ z=>(List.mem_cons.mp (I.stkSub b z)).elim hL hb) hc) (λ b o _ _ hc e n=>u.any e n hc) (λ b o hc e n=>u.free b o e n hc) (λ b o hc e=>u.there b o e hc) u.tups u.frzs u.tbls (λ m' hm=>by
  obtain ⟨o',es',ep',ho',r'⟩:=hm
  rw [ho] at ho'; cases ho'
  exact ⟨_,es',ep',hL,r'⟩) hok hg
theorem Inv.turned {t':Nat} {it:Addr} (I:Inv X pins σ H s) (k:∀ b o,b≠it->s.heap.get? b=some o->h'.get? b=some o) (hn:H it=none) (hL:it≠X.env.locals)
 (h1:it∈X.ex\/X.s₀.heap.objs.size<=it) (h2:∀ x c,X.env.cells.lookup x=some c->c≠it) (h3:∀ p∈X.pn++pins,p.1≠it):Inv X pins σ H { s with heap:=h',toks:=t' }:=by
 have nit:∀ b u,H b=some u->b≠it:=λ b u e z=>by rw [z,hn] at e; cases e
 refine I.step (g':=s.gens) (d':=s.drawn) (ch:=[it]) (λ b hb=>?_) (λ b o _ _ hc e _=>k b o (λ z=>hc (by simp [z])) e) (λ b o _ _ hc e _=>⟨o.slots,k b o (λ z=>hc (by simp [z])) e⟩) (λ _ _ _ _ n=>n)
  (λ b o hc e=>⟨o,k b o (λ z=>hc (by simp [z])) e⟩) (λ _ _ e=>e) (λ _ _ _ e=>e) (λ b ps e=>⟨#[],by rw [e]; simp⟩) (λ m hm=>?_) (λ b u e=>?_) I.bare
 · have e:b=it:=by simpa using hb
   subst e
   exact ⟨h1,hL,h2,h3⟩
 · obtain ⟨o,es,ep,ho,r⟩:=hm
   exact ⟨o,es,ep,k _ o (Ne.symm hL) ho,r⟩
 · refine (I.hok b u e).stay (λ c v hc q=>k c v ?_ q) (λ _ q=>q) λ _ _ q=>q
   rcases hc with z | z
   · rw [z]; exact nit b u e
   · exact nit c _ z
theorem Inv.tok (I:Inv X pins σ H s) (t:Nat):Inv X pins σ H { s with toks:=t }:=I.un (h':=s.heap) (t':=t) Un.refl I.hok
theorem Inv.kept {t':Nat} (I:Inv X pins σ H s) (k:∀ b u,s.heap.get? b=some u->h'.get? b=some u):Inv X pins σ H { s with heap:=h',toks:=t' }:=I.un (Un.kept k) (I.hok.kept k)
theorem Inv.laid {a:Addr} {o:HO} {t':Nat} (I:Inv X pins σ H s) (k:∀ b u,s.heap.get? b=some u->h'.get? b=some u) (hp:s.heap.objs.size<=a) (new:ObjOk X.prog X.w (upd H a o) h' a o) :
 Inv X pins σ (upd H a o) { s with heap:=h',toks:=t' }:=I.un (Un.laid k hp (I.hok.fresh hp)) (I.hok.laid k hp new)
theorem Inv.write {x e:Addr} {o:HO} {t':Nat} (I:Inv X pins σ H s) (mu:Mut (H x)) (he:e=x\/H e=some (.own x)) (k:∀ b u,b≠e->s.heap.get? b=some u->h'.get? b=some u) (heo:∃ u,h'.get? e=some u)
 (new:ObjOk X.prog X.w (upd H x o) h' x o):Inv X pins σ (upd H x o) { s with heap:=h',toks:=t' }:=I.un (Un.write mu he k heo) (I.hok.write mu he k heo new)
theorem Inv.pins_of {pins':List (Addr×Obj)} (I:Inv X pins σ H s) (h:∀ p∈pins',s.heap.get? p.1=some p.2/\H p.1=none/\p.1≠X.env.locals/\p.1 ∉ X.fs/\∀ v,p.2.data≠.cell v):Inv X pins' σ H s :=
 ⟨I.ok,I.os,I.bare,I.base,I.loc,I.cell,I.free,I.freeC,λ p hp=>(List.mem_append.mp hp).elim (λ z=>I.pin p (List.mem_append_left _ z)) (h p),I.hok,I.len⟩
theorem Zi8 {N:List Str} (hN:N.Nodup) {i j:Nat} {x:Str} (a:N[i]?=some x) (b:N[j]?=some x):i=j:=by
 obtain ⟨h1,e1⟩:=List.getElem?_eq_some_iff.mp a
 obtain ⟨h2,e2⟩:=List.getElem?_eq_some_iff.mp b
 exact (List.getElem_inj hN).mp (e1.trans e2.symm)
theorem Zgy {M:Model} {A:Around} {E:Value->Shared->Prop} {i:Nat} {x:Str} {v:V} {u:Value} {Q:Unit->Shared->Prop} (I:Inv X pins σ H s) (hN:X.N.Nodup) (hi:X.N[i]?=some x) (hx:Loc X.env.scope x) (r:RelV v u)
 (h:∀ s',Inv X pins (σ.set i (some v)) H s'->(∃ a,Heap.SameBut a s.heap s'.heap/\(a=X.env.locals\/X.env.cells.lookup x=some a))->Q () s') (hf:X.fn x=true\/X.env.scope.names.lookup x=some .local:=by first | exact .inl rfl | exact .inr rfl | assumption):wpAny M A (storeName X.env x u) Q E s:=by
 obtain ⟨m,hn,hl⟩:=id I.loc
 have hcls:(X.env.scope.kind == .class || (X.env.scope.kind == .module && X.env.locals != X.env.globals))=false:=by rw [I.ok.kind]; rfl
 have hiσ:i<σ.length:=by rw [I.len]; exact (List.getElem?_eq_some_iff.mp hi).1
 have cne:=I.cne
 have tracked:∀ {a:Addr} {h':Heap},(∃ o,s.heap.get? a=some o/\H a=none)->Heap.SameBut a s.heap h'->HOk X.prog X.w H h':=λ {a h'} ha hs b ob e=>by
  obtain ⟨_,_,hfree⟩:=ha
  refine (I.hok b ob e).stay (λ c w' hc q=>(hs.2 c ?_).trans q) (λ _ q=>q) λ _ _ q=>q
  rintro rfl
  rcases hc with rfl | hc
  · rw [hfree] at e; cases e
  · rw [hfree] at hc; cases hc
 rcases hx with hk | hk
 · refine wpAny_storeName_local hk hn (λ h' hn' hs=>?_) hcls
   obtain ⟨oL,_,_,hoL,_⟩:=id hn
   refine h _ ⟨I.ok,I.os,I.bare,⟨λ b o e n hb hx=>?_,λ b o e n hb hx=>?_,I.base.free,λ b o e hx=>?_,I.base.tups,I.base.frzs,I.base.tbls⟩,⟨_,hn',λ j y v' e1 e2 e3=>?_⟩,λ y c e=>?_,I.free,I.freeC,λ p hp=>?_,tracked ⟨oL,hoL,I.free⟩ hs,by simpa using I.len⟩ ⟨_,hs,.inl rfl⟩
   · exact (hs.2 b (Nat.ne_of_lt (Nat.lt_of_lt_of_le (Heap.lt_size e) I.ok.above))).trans (I.base.keep b o e n hb hx)
   · obtain ⟨sl,e1⟩:=I.base.slot b o e n hb hx
     exact ⟨sl,(hs.2 b (Nat.ne_of_lt (Nat.lt_of_lt_of_le (Heap.lt_size e) I.ok.above))).trans e1⟩
   · obtain ⟨o',e1⟩:=I.base.there b o e hx
     exact ⟨o',(hs.2 b (Nat.ne_of_lt (Nat.lt_of_lt_of_le (Heap.lt_size e) I.ok.above))).trans e1⟩
   · by_cases hj:j=i
     · subst hj
       rw [hi] at e1; cases e1
       rw [List.getElem?_set_self hiσ] at e2
       cases e2
       exact ⟨u,r,.inl ⟨hk,by simp⟩⟩
     · rw [List.getElem?_set_ne (Ne.symm hj)] at e2
       obtain ⟨u',r',q⟩:=hl j y v' e1 e2 e3
       refine ⟨u',r',?_⟩
       rcases q with ⟨k,e⟩ | ⟨k,c,e,z⟩
       · refine .inl ⟨k,?_⟩
         have:y≠x:=λ e=>hj (Zi8 hN e1 (e ▸ hi))
         simp [this,e]
       · exact .inr ⟨k,c,e,z.sameBut hs (cne y c e)⟩
   · obtain ⟨w',z⟩:=I.cell y c e
     exact ⟨w',z.sameBut hs (cne y c e)⟩
   · obtain ⟨e,n,ne,nf,d⟩:=I.pin p hp
     exact ⟨(hs.2 p.1 ne).trans e,n,ne,nf,d⟩
 · have hfn:X.fn x=true:=by
    rcases hf with z | z
    · exact z
    · rw [z] at hk; cases hk
   obtain ⟨c,hc⟩:=I.ok.has x (.inl hk)
   obtain ⟨w',z⟩:=I.cell x c hc
   refine wpAny_storeName_cell I.ok.kind hk hc z (λ h' hc' hs=>?_)
   obtain ⟨oc,hoc,hocd⟩:=id z
   refine h { s with heap:=h' } ⟨I.ok,I.os,I.bare,⟨λ b o e n hb hx=>?_,λ b o e n hb hx=>?_,I.base.free,λ b o e hx=>?_,I.base.tups,I.base.frzs,I.base.tbls⟩,⟨m,hn.sameBut hs (Ne.symm (cne x c hc)),λ j y v' e1 e2 e3=>?_⟩,λ y c' e=>?_,I.free,I.freeC,λ p hp=>?_,tracked ⟨oc,hoc,I.freeC x c hc⟩ hs,by simpa using I.len⟩ ⟨c,hs,.inr hc⟩
   · exact (hs.2 b (Nat.ne_of_lt (Nat.lt_of_lt_of_le (Heap.lt_size e) (I.ok.cab x c hfn hc)))).trans (I.base.keep b o e n hb hx)
   · obtain ⟨sl,e1⟩:=I.base.slot b o e n hb hx
     exact ⟨sl,(hs.2 b (Nat.ne_of_lt (Nat.lt_of_lt_of_le (Heap.lt_size e) (I.ok.cab x c hfn hc)))).trans e1⟩
   · obtain ⟨o',e1⟩:=I.base.there b o e hx
     exact ⟨o',(hs.2 b (Nat.ne_of_lt (Nat.lt_of_lt_of_le (Heap.lt_size e) (I.ok.cab x c hfn hc)))).trans e1⟩
   · by_cases hj:j=i
     · subst hj
       rw [hi] at e1; cases e1
       rw [List.getElem?_set_self hiσ] at e2
       cases e2
       exact ⟨u,r,.inr ⟨.inl hk,c,hc,hc'⟩⟩
     · rw [List.getElem?_set_ne (Ne.symm hj)] at e2
       obtain ⟨u',r',q⟩:=hl j y v' e1 e2 e3
       refine ⟨u',r',?_⟩
       rcases q with q | ⟨k,c',e,z'⟩
       · exact .inl q
       · refine .inr ⟨k,c',e,z'.sameBut hs ?_⟩
         rintro rfl
         exact hj (Zi8 hN e1 (I.ok.inj _ _ _ e hc ▸ hi))
   · by_cases hcc:c'=c
     · subst hcc; exact ⟨_,hc'⟩
     · obtain ⟨w2,z2⟩:=I.cell y c' e
       exact ⟨w2,z2.sameBut hs hcc⟩
   · obtain ⟨e,n,ne,nf,d⟩:=I.pin p hp
     refine ⟨(hs.2 p.1 ?_).trans e,n,ne,nf,d⟩
     intro q
     rw [q,hoc] at e
     have q':oc=p.2:=Option.some.inj e
     exact d w' (by rw [← q']; exact hocd)
theorem Zix {M:Model} {A:Around} {E:Value->Shared->Prop} {i:Nat} {x:Str} {v:V} {u:Value} {Q:Unit->Shared->Prop} (I:Inv X pins σ H s) (hN:X.N.Nodup) (hi:X.N[i]?=some x) (hx:Loc X.env.scope x) (r:RelV v u)
 (h:∀ s',Inv X pins (σ.set i (some v)) H s'->Q () s') (hf:X.fn x=true\/X.env.scope.names.lookup x=some .local:=by first | exact .inl rfl | exact .inr rfl | assumption):wpAny M A (storeName X.env x u) Q E s :=
 Zgy I hN hi hx r (λ s' I' _=>h s' I') hf
theorem Inv.call' {s':Shared} {ch:List Addr} (I:Inv X pins σ H s) (ho:s'.os=s.os) (u:Un (frs X.stack) ch H H' s.heap s'.heap) (hok:HOk X.prog X.w H' s'.heap) (hg:AllBare s'.gens)
 (hch:∀ b∈ch,(b∈X.ex\/X.s₀.heap.objs.size<=b)/\b≠X.env.locals/\(∀ x c,X.env.cells.lookup x=some c->c≠b)/\∀ p∈X.pn++pins,p.1≠b):Inv X pins σ H' s':=by
 obtain ⟨h',g',d',t',o'⟩:=s'
 have e:o'=s.os:=ho
 subst e
 exact I.call (g':=g') (t':=t') (d':=d') u hok hg hch
end
abbrev XK:=Value->Option Addr->Hp->Prop
abbrev St:=List (Option V)
abbrev VK:=V->Hp->Prop
abbrev TE:=St->Hp->VK->Prop
abbrev TT:=St->Hp->(Bool->Hp->Prop)->Prop
abbrev TA:=St->Hp->(List V->Hp->Prop)->Prop
structure Ends where
 nx:St->Hp->Prop
 rt:VK
 bk:St->Hp->Prop:=λ _ _=>False
 ct:St->Hp->Prop:=λ _ _=>False
abbrev TS:=Ends->St->Hp->Prop
def EP (X:Cx) (pins:List (Addr×Obj)) (σ:St) (Q:VK) (u:Value) (s':Shared):Prop:=∃ v H',Inv X pins σ H' s'/\RelV v u/\Q v H'
def TP (X:Cx) (pins:List (Addr×Obj)) (σ:St) (Q:Bool->Hp->Prop) (b:Bool) (s':Shared):Prop:=∃ H',Inv X pins σ H' s'/\Q b H'
def AP (X:Cx) (pins:List (Addr×Obj)) (σ:St) (Q:List V->Hp->Prop) (us:List Value) (s':Shared):Prop:=∃ vs H',Inv X pins σ H' s'/\Vals vs us/\Q vs H'
def SP (X:Cx) (pins:List (Addr×Obj)) (D:Ends) (f:Flow) (s':Shared):Prop :=
 match f with
 | .next=>∃ σ' H',Inv X pins σ' H' s'/\D.nx σ' H'
 | .brk=>∃ σ' H',Inv X pins σ' H' s'/\D.bk σ' H'
 | .cont=>∃ σ' H',Inv X pins σ' H' s'/\D.ct σ' H'
 | .ret u=>∃ v σ' H',Inv X pins σ' H' s'/\RelV v u/\D.rt v H'
def PE (X:Cx) (e:Expr) (t:TE):Prop :=
 ∀ (pins:List (Addr×Obj)) (s:Shared) (σ:St) (H:Hp) (Q:VK),Inv X pins σ H s->t σ H Q->wpAny (model X.prog X.w) X.A (eval e X.env) (EP X pins σ Q) X.xe s
def PT (X:Cx) (e:Expr) (t:TT):Prop :=
 ∀ (pins:List (Addr×Obj)) (s:Shared) (σ:St) (H:Hp) (Q:Bool->Hp->Prop),Inv X pins σ H s->t σ H Q->wpAny (model X.prog X.w) X.A (isTrue e X.env (eval e X.env)) (TP X pins σ Q) X.xe s
def PW (X:Cx) (e:Expr) (t:TT):Prop :=
 ∀ (whole:Sem Value) (pins:List (Addr×Obj)) (s:Shared) (σ:St) (H:Hp) (Q:Bool->Hp->Prop),Inv X pins σ H s->t σ H Q->wpAny (model X.prog X.w) X.A (isTrue e X.env whole) (TP X pins σ Q) X.xe s
theorem PW.pt {X:Cx} {e:Expr} {t:TT} (h:PW X e t):PT X e t:=h _
def PA (X:Cx) (es:List Expr) (t:TA):Prop :=
 ∀ (pos:Pos) (pins:List (Addr×Obj)) (s:Shared) (σ:St) (H:Hp) (Q:List V->Hp->Prop),Inv X pins σ H s->t σ H Q->wpAny (model X.prog X.w) X.A (spliced (backTo pos (starEach es X.env))) (AP X pins σ Q) X.xe s
def PS (X:Cx) (st:Stmt) (t:TS):Prop :=
 ∀ (pins:List (Addr×Obj)) (s:Shared) (σ:St) (H:Hp) (D:Ends),Inv X pins σ H s->t D σ H->wpAny (model X.prog X.w) X.A (exec st X.env) (SP X pins D) X.xe s
def PSs (X:Cx) (st:List Stmt) (t:TS):Prop :=
 ∀ (pins:List (Addr×Obj)) (s:Shared) (σ:St) (H:Hp) (D:Ends),Inv X pins σ H s->t D σ H->wpAny (model X.prog X.w) X.A (execs st X.env) (SP X pins D) X.xe s
theorem thn {α:Type} {t:Sem α} {Q Q':α->Shared->Prop} {M:Model} {A:Around} {E:Value->Shared->Prop} {s:Shared} (h:wpAny M A t Q E s) (hQ:∀ a s,Q a s->Q' a s):wpAny M A t Q' E s:=wpAny_mono h hQ λ _ _ x=>x
end L2
namespace L2
open PySem PySem.Spec PyProof.Rows
section
variable {X:Cx}
theorem bin {a b:Expr} {ta tb:TE} (ha:PE X a ta) (hb:PE X b tb) {pins:List (Addr×Obj)} {s:Shared} {σ:St} {H:Hp} {R:V->V->Hp->Prop} (I:Inv X pins σ H s) (h:ta σ H λ x H1=>tb σ H1 λ y H2=>R x y H2)
 {α:Type} {Q:α->Shared->Prop} {f:Value->Value->Sem α}
 (hf:∀ v u s2 x y H2,Inv X pins σ H2 s2->RelV x v->RelV y u->R x y H2->wpAny (model X.prog X.w) X.A (f v u) Q X.xe s2) :
 wpAny (model X.prog X.w) X.A (eval a X.env) (λ v s₁=>wpAny (model X.prog X.w) X.A (eval b X.env) (λ u s₂=>wpAny (model X.prog X.w) X.A (f v u) Q X.xe s₂) X.xe s₁) X.xe s:=by
 refine thn (ha pins s σ H _ I h) λ v s1 ⟨x,H1,I1,r1,q1⟩=>?_
 refine thn (hb pins s1 σ H1 _ I1 q1) λ u s2 ⟨y,H2,I2,r2,q2⟩=>?_
 exact hf v u s2 x y H2 I2 r1 r2 q2
def Zc (i:Nat):TE:=λ σ H Q=>∃ v,σ[i]?=some (some v)/\Q v H
def tC (v:V):TE:=λ _ H Q=>Q v H
theorem Z12 {i:Nat} {x:Str} {pos:Pos} (hN:X.N[i]?=some x) (hv:Vis X.env.scope x) (hd:(x == ("__debug__":Str))=false:=by decide) (hcd:(x == ("__classdict__":Str))=false:=by decide):PE X (.Name x pos) (Zc i):=by
 intro pins s σ H Q I h
 obtain ⟨v,e,h⟩:=h
 obtain ⟨m,hn,hl⟩:=I.loc
 obtain ⟨u,r,l⟩:=hl i x v hN e hv
 have fin:EP X pins σ Q u s:=⟨v,H,I,r,h⟩
 rcases l with ⟨hk,hm⟩ | ⟨hk,c,hc,hcell⟩
 · exact wpAny_Name (wpAny_loadName_local I.ok.kind hk hn hm fin) hd
 · rcases hk with hk | hk
   · exact wpAny_Name (wpAny_loadName_cell I.ok.kind hk hc hcell fin) hd
   · exact wpAny_Name (wpAny_loadName_free I.ok.kind hk hc hcell fin hcd) hd
theorem Zj {i j pos}:PE X (.Constant (.int i) j pos) (tC (.int i)):=λ _ _ _ H _ I h=>wpAny_Constant_int ⟨.int i,H,I.tok _,⟨_,rfl⟩,h⟩
theorem Kz {b j pos}:PE X (.Constant (.bool b) j pos) (tC (.bl b)):=λ _ _ _ H _ I h=>Constant_bool ⟨.bl b,H,I,rfl,h⟩
theorem Zi {x j pos}:PE X (.Constant (.str x) j pos) (tC (.str x)):=λ _ _ _ H _ I h=>Calls.Constant_str ⟨.str x,H,I.tok _,⟨_,rfl⟩,h⟩
def Gl (X:Cx) (x:Str):Prop:=X.env.kindOf x=some .globalImplicit
theorem Jy {E:Value->Shared->Prop} {pins:List (Addr×Obj)} {s:Shared} {σ:St} {H:Hp} {x:Str} {u:Value} {pos:Pos} {Q:Value->Shared->Prop} (I:Inv X pins σ H s) (hg:Gl X x) (hm:X.mg x=some u) (h:Q u s)
 (hd:(x == ("__debug__":Str))=false:=by decide):wpAny (model X.prog X.w) X.A (eval (.Name x pos) X.env) Q E s :=
 Calls.Name_function_global I.ok.kind hg (Calls.loadGlobal_global (by rw [I.ok.glob]; exact I.mod.glob.keeps I.bk) hm h) hd
theorem Zet {E:Value->Shared->Prop} {pins:List (Addr×Obj)} {s:Shared} {σ:St} {H:Hp} {x:Str} {u:Value} {pos:Pos} {Q:Value->Shared->Prop} (I:Inv X pins σ H s) (hg:Gl X x) (hm:X.mg x=none) (hv:bootBuiltins x=some u) (h:Q u s)
 (hn:x≠"__name__":=by decide) (hd:(x == ("__debug__":Str))=false:=by decide):wpAny (model X.prog X.w) X.A (eval (.Name x pos) X.env) Q E s:=by
 obtain ⟨mb,h1,h2⟩:=I.mod.blt
 exact Calls.Name_function_global I.ok.kind hg (Calls.loadGlobal_builtin (by rw [I.ok.glob]; exact I.mod.glob.keeps I.bk) hm (by rw [I.ok.blt]; exact h1.keeps I.bk) ((h2 x hn).trans hv) h) hd
theorem Zmp {x:Str} {v:V} {u:Value} {pos:Pos} (hg:Gl X x) (hm:X.mg x=some u) (r:RelV v u) (hd:(x == ("__debug__":Str))=false:=by decide):PE X (.Name x pos) (tC v) :=
 λ _ _ _ H _ I h=>Jy I hg hm ⟨v,H,I,r,h⟩ hd
theorem Z0f {x:Str} {v:V} {u:Value} {pos:Pos} (hg:Gl X x) (hm:X.mg x=none) (hv:bootBuiltins x=some u) (r:RelV v u) (hn:x≠"__name__":=by decide) (hd:(x == ("__debug__":Str))=false:=by decide):PE X (.Name x pos) (tC v) :=
 λ _ _ _ H _ I h=>Zet I hg hm hv ⟨v,H,I,r,h⟩ hn hd
variable {a b:Expr} {ta tb:TE} {pos:Pos}
def PC (X:Cx) (op:CmpOp) (a b:Expr) (t:TE):Prop :=
 ∀ (pins:List (Addr×Obj)) (s:Shared) (σ:St) (H:Hp) (Q:VK),Inv X pins σ H s->t σ H Q ->
   wpAny (model X.prog X.w) X.A (eval a X.env) (λ v s₁=>wpAny (model X.prog X.w) X.A (eval b X.env) (λ u s₂=>wpAny (model X.prog X.w) X.A (compareOp op v u) (EP X pins σ Q) X.xe s₂) X.xe s₁) X.xe s
def tB (t:TE):TT:=λ σ H Q=>t σ H λ x H1=>∃ c,x=.bl c/\Q c H1
theorem Zen {op:CmpOp} {t:TE} (h:PC X op a b t) (h1:behindInMarks op b=false:=by first | exact nobehind _ (by decide) (by decide) | rfl):PT X (.Compare a [op] [b] pos) (tB t):=by
 intro pins s σ H Q I hw
 refine wpAny_isTrue_Compare1 (thn (h pins s σ H _ I hw) λ v s1 h1=>thn h1 λ u s2 h2=>thn h2 λ c s3 ⟨x,H1,I1,r1,q1⟩=>?_) h1
 obtain ⟨d,rfl,q⟩:=q1
 cases r1
 exact wpAny_truthy_bool ⟨H1,I1,q⟩
variable {tA tB':TT} {rest:List Expr}
def Zlx (t u:TT):TT:=λ σ H Q=>t σ H λ c H1=>if c=true then u σ H1 Q else Q false H1
def tOr (t u:TT):TT:=λ σ H Q=>t σ H λ c H1=>if c=true then Q true H1 else u σ H1 Q
def Kf (t:TT):TT:=λ σ H Q=>t σ H λ c H1=>Q (!c) H1
theorem Zml (ha:PT X a tA):PW X (.BoolOp .And [a] pos) tA:=by
 intro wh pins s σ H Q I h
 refine isTrue_and (thn (ha pins s σ H Q I h) λ c s1 e=>?_)
 cases c with
 | true=>exact isTrue_and_nil e
 | false=>exact e
theorem Zhj (ha:PT X a tA):PW X (.BoolOp .Or [a] pos) tA:=by
 intro wh pins s σ H Q I h
 refine isTrue_or (thn (ha pins s σ H Q I h) λ c s1 e=>?_)
 cases c with
 | false=>exact isTrue_or_nil e
 | true=>exact e
theorem Zqc (ha:PT X a tA) (hb:PW X (.BoolOp .And (b::rest) pos) tB'):PW X (.BoolOp .And (a::b::rest) pos) (Zlx tA tB'):=by
 intro wh pins s σ H Q I h
 refine isTrue_and (thn (ha pins s σ H _ I h) λ c s1 ⟨H1,I1,q1⟩=>?_)
 cases c with
 | true=>exact hb wh pins s1 σ H1 Q I1 q1
 | false=>exact ⟨H1,I1,q1⟩
theorem Zkh (ha:PT X a tA) (hb:PW X (.BoolOp .Or (b::rest) pos) tB'):PW X (.BoolOp .Or (a::b::rest) pos) (tOr tA tB'):=by
 intro wh pins s σ H Q I h
 refine isTrue_or (thn (ha pins s σ H _ I h) λ c s1 ⟨H1,I1,q1⟩=>?_)
 cases c with
 | true=>exact ⟨H1,I1,q1⟩
 | false=>exact hb wh pins s1 σ H1 Q I1 q1
theorem Wq (ha:PT X a tA):PT X (.UnaryOp .Not a pos) (Kf tA):=by
 intro pins s σ H Q I h
 exact isTrue_not (ha pins s σ H (λ c H1=>Q (!c) H1) I h)
def U6 (ta tb:TE):TE:=λ σ H Q=>ta σ H λ x H1=>∃ c,x=.bl c/\if c=true then tb σ H1 Q else Q (.bl false) H1
def Zxs (ta tb:TE):TE:=λ σ H Q=>ta σ H λ x H1=>∃ c,x=.bl c/\if c=true then Q (.bl true) H1 else tb σ H1 Q
def Zou (ta:TE):TE:=λ σ H Q=>ta σ H λ x H1=>∃ c,x=.bl c/\Q (.bl (!c)) H1
theorem Us {op} {t:TE} (h:PE X a t):PE X (.BoolOp op [a] pos) t:=λ pins s σ H Q I hw=>BoolOp_one (h pins s σ H Q I hw)
theorem Uu (ha:PE X a ta) (hb:PE X (.BoolOp .And (b::rest) pos) tb):PE X (.BoolOp .And (a::b::rest) pos) (U6 ta tb):=by
 intro pins s σ H Q I h
 refine BoolOp_and (thn (ha pins s σ H _ I h) λ v s1 ⟨x,H1,I1,r1,q1⟩=>?_)
 obtain ⟨c,rfl,q1⟩:=q1
 cases r1
 refine wpAny_truthy_bool ?_
 cases c with
 | true=>exact hb pins s1 σ H1 Q I1 q1
 | false=>exact ⟨.bl false,H1,I1,rfl,q1⟩
theorem Z3d (ha:PE X a ta) (hb:PE X (.BoolOp .Or (b::rest) pos) tb):PE X (.BoolOp .Or (a::b::rest) pos) (Zxs ta tb):=by
 intro pins s σ H Q I h
 refine BoolOp_or (thn (ha pins s σ H _ I h) λ v s1 ⟨x,H1,I1,r1,q1⟩=>?_)
 obtain ⟨c,rfl,q1⟩:=q1
 cases r1
 refine wpAny_truthy_bool ?_
 cases c with
 | false=>exact hb pins s1 σ H1 Q I1 q1
 | true=>exact ⟨.bl true,H1,I1,rfl,q1⟩
theorem Zvu (ha:PE X a ta):PE X (.UnaryOp .Not a pos) (Zou ta):=by
 intro pins s σ H Q I h
 refine UnaryOp_ (thn (ha pins s σ H _ I h) λ v s1 ⟨x,H1,I1,r1,q1⟩=>?_)
 obtain ⟨c,rfl,q1⟩:=q1
 cases r1
 exact not_of (wpAny_truthy_bool ⟨.bl (!c),H1,I1,rfl,q1⟩)
def tIf (t:TT) (ta tb:TE):TE:=λ σ H Q=>t σ H λ c H1=>if c=true then ta σ H1 Q else tb σ H1 Q
theorem Zx6 {c:Expr} (hc:PT X c tA) (ha:PE X a ta) (hb:PE X b tb):PE X (.IfExp c a b pos) (tIf tA ta tb):=by
 intro pins s σ H Q I h
 refine wpAny_IfExp (thn (hc pins s σ H _ I h) λ d s1 ⟨H1,I1,q1⟩=>?_)
 cases d with
 | true=>exact ha pins s1 σ H1 Q I1 q1
 | false=>exact hb pins s1 σ H1 Q I1 q1
end
end L2
namespace L2
open PySem PySem.Spec PyProof.Rows
def SqL (K:Fq) (H:Hp) (a:Addr) (xs:List V):Prop :=
 Rd H a (.lst xs) \/
  ∃ (o:Obj) (its:Array Value) (n:Nat),K.lookup a=some o/\o.cls=.type "list"/\o.dict=none/\o.data=.seq its n/\its.size<=sizeLine/\Vals xs its.toList
def SqT (K:Fq) (H:Hp) (a:Addr) (xs:List V):Prop :=
 Rd H a (.tup xs) \/
  ∃ (o:Obj) (its:Array Value) (n:Nat),K.lookup a=some o/\o.cls=.type "tuple"/\o.data=.seq its n/\its.size<=sizeLine/\Vals xs its.toList
def absV:Value->Option V
 | .none=>some .non
 | .bool b=>some (.bl b)
 | .int i _=>some (.int i)
 | .str x _=>some (.str x)
 | .bytes b _=>some (.byt b)
 | .float b _=>some (.flt b)
 | .ref a=>some (.ref a)
 | .type n=>some (.ty n)
 | _=>none
theorem RelV.abs {x:V} {u:Value} (r:RelV x u):absV u=some x:=by
 cases x with
 | non=>cases r; rfl
 | bl _=>cases r; rfl
 | int _=>obtain ⟨t,rfl⟩:=r; rfl
 | str _=>obtain ⟨t,rfl⟩:=r; rfl
 | byt _=>obtain ⟨t,rfl⟩:=r; rfl
 | flt _=>obtain ⟨t,rfl⟩:=r; rfl
 | ref _=>cases r; rfl
 | ty _=>cases r; rfl
theorem RelV.inj {x y:V} {u:Value} (r:RelV x u) (q:RelV y u):x=y:=Option.some.inj (r.abs.symm.trans q.abs)
theorem Vals.inj:∀ {xs ys:List V} {us:List Value},Vals xs us->Vals ys us->xs=ys
 | _,_,_,.nil,.nil=>rfl
 | _,_,_,.cons r t,.cons r' t'=>by rw [r.inj r',Vals.inj t t']
section
variable {X:Cx} {pins:List (Addr×Obj)} {σ:St} {H:Hp} {s:Shared} {a:Addr} {xs ys:List V}
theorem SqL.of {K:Fq} (h:H a=some (.lst xs)):SqL K H a xs:=.inl (.inl h)
theorem SqT.of {K:Fq} (h:H a=some (.tup xs)):SqT K H a xs:=.inl (.inl h)
theorem Inv.list (I:Inv X pins σ H s) (h:SqL X.K H a xs):∃ its:List Value,Vals xs its/\PlainL s.heap a its.toArray/\xs.length<=sizeLine:=by
 rcases h with h | ⟨o,its,n,hk,hc,hd,hs,hz,r⟩
 · obtain ⟨z,its,n,r,e⟩:=h.ok I.hok
   exact ⟨its,r,⟨_,n,e,rfl,rfl,rfl⟩,z⟩
 · refine ⟨its.toList,r,⟨o,n,I.kIn a o hk,hc,hd,by simpa using hs⟩,?_⟩
   have e:=r.length
   simp only [Array.length_toList] at e
   omega
theorem Inv.tuple (I:Inv X pins σ H s) (h:SqT X.K H a xs):∃ its:List Value,Vals xs its/\IsTup s.heap a its.toArray/\xs.length<=sizeLine:=by
 rcases h with h | ⟨o,its,n,hk,hc,hs,hz,r⟩
 · obtain ⟨z,its,r,p⟩:=h.ok I.hok
   exact ⟨its,r,p,z⟩
 · refine ⟨its.toList,r,⟨o,I.kIn a o hk,hc,n,by simpa using hs⟩,?_⟩
   have e:=r.length
   simp only [Array.length_toList] at e
   omega
theorem Inv.list_inj (I:Inv X pins σ H s) (h:SqL X.K H a xs) (h':SqL X.K H a ys):xs=ys:=by
 obtain ⟨its,r,⟨o,n,e,_,_,d⟩,_⟩:=I.list h
 obtain ⟨its',r',⟨o',n',e',_,_,d'⟩,_⟩:=I.list h'
 rw [e] at e'; cases e'
 rw [d] at d'
 injection d' with d1 _
 have:its=its':=by simpa using congrArg Array.toList d1
 subst this
 exact r.inj r'
theorem Inv.tuple_inj (I:Inv X pins σ H s) (h:SqT X.K H a xs) (h':SqT X.K H a ys):xs=ys:=by
 obtain ⟨its,r,⟨o,e,_,n,d⟩,_⟩:=I.tuple h
 obtain ⟨its',r',⟨o',e',_,n',d'⟩,_⟩:=I.tuple h'
 rw [e] at e'; cases e'
 rw [d] at d'
 injection d' with d1 _
 have:its=its':=by simpa using congrArg Array.toList d1
 subst this
 exact r.inj r'
end
abbrev Cx.wish (X:Cx) (E:Value->Shared->Prop):Cx:={ X with xe:=E }
abbrev Cx.nox (X:Cx):Cx:=X.wish λ _ _=>False
theorem Cx.Ok.wish {X:Cx} (ok:X.Ok) (E:Value->Shared->Prop):(X.wish E).Ok :=
 ⟨ok.mod,ok.kind,ok.glob,ok.blt,ok.above,ok.inj,ok.has,ok.cab,ok.hd,ok.frames,ok.stk,ok.exf,ok.bs,ok.bsz,ok.noex,ok.exfs,ok.funs,ok.frf⟩
theorem Cx.Ok.unwish {X:Cx} {E:Value->Shared->Prop} (ok:(X.wish E).Ok):X.Ok :=
 ⟨ok.mod,ok.kind,ok.glob,ok.blt,ok.above,ok.inj,ok.has,ok.cab,ok.hd,ok.frames,ok.stk,ok.exf,ok.bs,ok.bsz,ok.noex,ok.exfs,ok.funs,ok.frf⟩
section
variable {X:Cx} {pins:List (Addr×Obj)} {σ:St} {H:Hp} {s:Shared} {E:Value->Shared->Prop}
theorem Inv.wish (I:Inv X pins σ H s) (E:Value->Shared->Prop):Inv (X.wish E) pins σ H s:=⟨I.ok.wish E,I.os,I.bare,I.base,I.loc,I.cell,I.free,I.freeC,I.pin,I.hok,I.len⟩
theorem Inv.unwish (I:Inv (X.wish E) pins σ H s):Inv X pins σ H s:=⟨I.ok.unwish,I.os,I.bare,I.base,I.loc,I.cell,I.free,I.freeC,I.pin,I.hok,I.len⟩
theorem SP.unwish {D:Ends} {f:Flow} {s':Shared} (h:SP (X.wish E) pins D f s'):SP X pins D f s':=by
 cases f with
 | next=>obtain ⟨σ',H',I,q⟩:=h; exact ⟨σ',H',I.unwish,q⟩
 | brk=>obtain ⟨σ',H',I,q⟩:=h; exact ⟨σ',H',I.unwish,q⟩
 | cont=>obtain ⟨σ',H',I,q⟩:=h; exact ⟨σ',H',I.unwish,q⟩
 | ret u=>obtain ⟨v,σ',H',I,r,q⟩:=h; exact ⟨v,σ',H',I.unwish,r,q⟩
theorem PSs.nox {st:List Stmt} {t:TS} (h:PSs X.nox st t):PSs X st t:=λ pins s σ H D I hw =>
 wpAny_mono (h pins s σ H D (I.wish _) hw) (λ _ _ q=>q.unwish) λ _ _ z=>False.elim z
end
section
variable {X:Cx} {st:Stmt} {rest:List Stmt} {t u:TS} {e:Expr} {te:TE} {pos:Pos}
def Yl:TS:=λ D σ H=>D.nx σ H
def Zv (t u:TS):TS:=λ D σ H=>t { D with nx:=u D } σ H
theorem Z9:PSs X [] Yl:=λ _ _ σ H _ I h=>wpAny_execs_nil ⟨σ,H,I,h⟩
theorem Zm (h1:PS X st t) (h2:PSs X rest u):PSs X (st::rest) (Zv t u):=by
 intro pins s σ H D I h
 refine wpAny_execs_cons (thn (h1 pins s σ H { D with nx:=u D } I h) λ f s1 q=>?_)
 cases f with
 | next =>
   obtain ⟨σ',H',I',q⟩:=q
   exact h2 pins s1 σ' H' D I' q
 | ret v=>exact q
 | brk=>exact q
 | cont=>exact q
theorem Zn (h1:PS X st t):PSs X [st] t:=by
 intro pins s σ H D I h
 refine wpAny_execs_cons (thn (h1 pins s σ H D I h) λ f s1 q=>?_)
 cases f with
 | next=>exact wpAny_execs_nil q
 | ret v=>exact q
 | brk=>exact q
 | cont=>exact q
theorem Inv.quiet {pins:List (Addr×Obj)} {σ:St} {H:Hp} {s:Shared} (I:Inv X pins σ H s):interactive X.env=false:=by simp [interactive,I.ok.kind]
def J2 (te:TE):TS:=λ D σ H=>te σ H λ _ H1=>D.nx σ H1
theorem Q7 (he:PE X e te) (hs:swapsWith e none pos.line X.env=pure false:=by rfl):PS X (.Expr e pos) (J2 te):=by
 intro pins s σ H D I h
 exact wpAny_Expr_any (thn (he pins s σ H _ I h) λ v s1 ⟨x,H1,I1,r1,q1⟩=>⟨σ,H1,I1,q1⟩) I.quiet hs
def Zz (te:TE):TS:=λ D σ H=>te σ H D.rt
theorem Zx (he:PE X e te):PS X (.Return (some e) pos) (Zz te):=by
 intro pins s σ H D I h
 exact wpAny_Return_some (thn (he pins s σ H _ I h) λ v s1 ⟨x,H1,I1,r1,q1⟩=>⟨x,σ,H1,I1,r1,q1⟩)
def Y0 (c:TT) (t u:TS):TS:=λ D σ H=>c σ H λ b H1=>if b=true then t D σ H1 else u D σ H1
theorem Yt {c:Expr} {a b:List Stmt} {tc:TT} (hc:PT X c tc) (ha:PSs X a t) (hb:PSs X b u):PS X (.If c a b pos) (Y0 tc t u):=by
 intro pins s σ H D I h
 refine wpAny_If (thn (hc pins s σ H _ I h) λ d s1 ⟨H1,I1,q1⟩=>?_)
 cases d with
 | true=>exact ha pins s1 σ H1 D I1 q1
 | false=>exact hb pins s1 σ H1 D I1 q1
def J0:TS:=λ _ _ _=>False
theorem Q6:PS X st J0:=λ _ _ _ _ _ _ h=>h.elim
end
abbrev TG:=V->St->Hp->(St->Hp->Prop)->Prop
abbrev TGs:=List V->St->Hp->(St->Hp->Prop)->Prop
def PG (X:Cx) (target:Expr) (t:TG):Prop :=
 ∀ (pins:List (Addr×Obj)) (s:Shared) (σ:St) (H:Hp) (v:V) (u:Value) (Q:St->Hp->Prop),Inv X pins σ H s->RelV v u->t v σ H Q ->
   wpAny (model X.prog X.w) X.A (assign target X.env u) (λ _ s'=>∃ σ' H',Inv X pins σ' H' s'/\Q σ' H') X.xe s
def PGs (X:Cx) (ts:List Expr) (t:TGs):Prop :=
 ∀ (pins:List (Addr×Obj)) (s:Shared) (σ:St) (H:Hp) (vs:List V) (us:List Value) (Q:St->Hp->Prop),Inv X pins σ H s->Vals vs us->t vs σ H Q ->
   wpAny (model X.prog X.w) X.A (assignInOrder ((assignEach ts X.env).map (·.2)) us) (λ _ s'=>∃ σ' H',Inv X pins σ' H' s'/\Q σ' H') X.xe s
abbrev TSet:=V->V->V->Hp->(Hp->Prop)->Prop
def PSet (X:Cx) (t:TSet):Prop :=
 ∀ (pins:List (Addr×Obj)) (s:Shared) (σ:St) (H:Hp) (o i v:V) (ov iv u:Value) (Q:Hp->Prop),Inv X pins σ H s->RelV o ov->RelV i iv->RelV v u->t o i v H Q ->
   wpAny (model X.prog X.w) X.A (setItem ov iv u) (λ _ s'=>∃ H',Inv X pins σ H' s'/\Q H') X.xe s
section
variable {X:Cx} {pos:Pos}
def Zt (i:Nat):TG:=λ v σ H Q=>Q (σ.set i (some v)) H
theorem Yh {i:Nat} {x:Str} (hN:X.N.Nodup) (hi:X.N[i]?=some x) (hx:Loc X.env.scope x) (hf:X.fn x=true\/X.env.scope.names.lookup x=some .local:=by first | exact .inl rfl | exact .inr rfl | assumption):PG X (.Name x pos) (Zt i):=by
 intro pins s σ H v u Q I r h
 exact wpAny_assign_Name (Zix I hN hi hx r (λ s' I'=>⟨_,H,I',h⟩) hf)
def Zf2:TGs:=λ vs σ H Q=>vs=[]/\Q σ H
def Wl (t:TG) (u:TGs):TGs:=λ vs σ H Q=>∃ v r,vs=v::r/\t v σ H λ σ' H'=>u r σ' H' Q
theorem Zeo:PGs X [] Zf2:=by
 intro pins s σ H vs us Q I r h
 obtain ⟨e,h⟩:=h
 subst e
 cases r
 exact assignInOrder_nil ⟨σ,H,I,h⟩
theorem Wg {e:Expr} {es:List Expr} {t:TG} {u:TGs} (h1:PG X e t) (h2:PGs X es u)
 (hs:(assignEach (e::es) X.env).map (·.2)=assign e X.env::(assignEach es X.env).map (·.2):=by rfl):PGs X (e::es) (Wl t u):=by
 intro pins s σ H vs us Q I r h
 obtain ⟨v,vr,e1,h⟩:=h
 subst e1
 cases r with
 | cons r rr =>
   rw [hs]
   refine assignInOrder_cons (thn (h1 pins s σ H _ _ _ I r h) λ _ s1 ⟨σ1,H1,I1,q1⟩=>?_)
   exact h2 pins s1 σ1 H1 _ _ Q I1 rr q1
def Zhp (K:Fq) (n:Nat) (t:TGs):TG:=λ v σ H Q=>∃ a xs,v=.ref a/\SqT K H a xs/\xs.length=n/\t xs σ H Q
theorem Zkk {es:List Expr} {k:Nat} {t:TGs} {n:Nat} (hc:X.calm=true) (h:PGs X es t)
 (hn:(assignEach es X.env).length=n:=by rfl) (hst:(assignEach es X.env).findIdx? (·.1)=none:=by rfl):PG X (.Tuple es k pos) (Zhp X.K n t):=by
 intro pins s σ H v u Q I r hw
 obtain ⟨a,xs,e1,hq,hl,hw⟩:=hw
 subst e1
 cases r
 obtain ⟨its,rv,ht,hz⟩:=I.tuple hq
 refine assign_Tuple_tuple (I.ok.hd hc) ht (by simp [hn,← hl,rv.length]) hst λ h' hx=>?_
 have I1:Inv X pins σ H { s with heap:=h' }:=I.kept (t':=s.toks) λ b o e=>hx b o (Nat.ne_of_lt (Heap.lt_size e)) e
 exact h pins _ σ H xs _ Q I1 (by simpa using rv) hw
def Zje (to ti:TE) (t:TSet):TG:=λ v σ H Q=>to σ H λ o H1=>ti σ H1 λ i H2=>t o i v H2 λ H3=>Q σ H3
theorem Zkl {o i:Expr} {to ti:TE} {t:TSet} (ho:PE X o to) (hi:PE X i ti) (hs:PSet X t)
 (ha:∀ v,assign (.Subscript o i pos) X.env v=(do
  let ov ← holding [v] (eval o X.env)
  let iv ← holding [v,ov] (eval i X.env)
  standAt pos
  holding [v,ov,iv] (setItem ov iv v)
  release [v,ov,iv] []):=by intro _; rfl):PG X (.Subscript o i pos) (Zje to ti t):=by
 intro pins s σ H v u Q I r h
 rw [ha]
 refine wpAny_bind (wpAny_holding (thn (ho pins s σ H _ I h) λ ov s1 ⟨x,H1,I1,r1,q1⟩=>?_))
 refine wpAny_bind (wpAny_holding (thn (hi pins s1 σ H1 _ I1 q1) λ iv s2 ⟨y,H2,I2,r2,q2⟩=>?_))
 refine wpAny_bind (wpAny_standAt (wpAny_bind (wpAny_holding (thn (hs pins s2 σ H2 x y v ov iv u _ I2 r1 r2 r q2) λ _ s3 ⟨H3,I3,q3⟩=>?_))))
 exact wpAny_release ⟨σ,H3,I3,q3⟩
def Z6 (te:TE) (g:TG):TS:=λ D σ H=>te σ H λ x H1=>g x σ H1 D.nx
theorem Zki {tg e:Expr} {te:TE} {g:TG} (he:PE X e te) (hg:PG X tg g) (hs:swapsWithSole [tg] e pos.line X.env=pure false:=by rfl) (hw:swappedStores [tg] e X.env=pure none:=by rfl)
 (h1:(assignEach [tg] X.env).map (·.2)=[assign tg X.env]:=by rfl):PS X (.Assign [tg] e pos) (Z6 te g):=by
 intro pins s σ H D I h
 refine wpAny_Assign_stores (thn (he pins s σ H _ I h) λ v s1 ⟨x,H1,I1,r1,q1⟩=>?_) hs hw
 rw [h1]
 exact thn (hg pins s1 σ H1 x v _ I1 r1 q1) λ _ s2 q=>q
theorem Z8 {i:Nat} {x:Str} {e:Expr} {te:TE} {pos':Pos} (hN:X.N.Nodup) (hi:X.N[i]?=some x) (hx:Loc X.env.scope x) (he:PE X e te) (hs:swapsWith e (some (.Name x pos')) pos.line X.env=pure false:=by rfl) (hf:X.fn x=true\/X.env.scope.names.lookup x=some .local:=by first | exact .inl rfl | exact .inr rfl | assumption) :
 PS X (.Assign [.Name x pos'] e pos) (Z6 te (Zt i)):=by
 intro pins s σ H D I h
 refine wpAny_Assign_Name (thn (he pins s σ H _ I h) λ v s1 ⟨y,H1,I1,r1,q1⟩=>?_) hs
 exact Zix I1 hN hi hx r1 (λ s2 I2=>⟨_,H1,I2,q1⟩) hf
end
section
variable {X:Cx} {pos:Pos}
end
structure It where
 go:Nat->Hp->Prop
 yld:Nat->Hp->V->Hp->Prop
 stop:Nat->Hp->Prop
def FpOk (X:Cx) (pins:List (Addr×Obj)) (H:Hp) (b:Addr):Prop :=
 H b=none/\b≠X.env.locals/\b ∉ X.fs/\(b∈X.ex\/X.s₀.heap.objs.size<=b)/\(∀ x c,X.env.cells.lookup x=some c->c≠b)/\∀ p∈X.pn++pins,p.1≠b
theorem Inv.fpOk {X:Cx} {pins:List (Addr×Obj)} {σ:St} {H H':Hp} {s:Shared} {b:Addr} (I:Inv X pins σ H s) (hb:s.heap.objs.size<=b) (hn:H' b=none):FpOk X pins H' b:=by
 refine ⟨hn,Nat.ne_of_gt (Nat.lt_of_lt_of_le I.lt hb),I.nofs hb,.inr (Nat.le_trans I.sz hb),λ x c e z=>?_,λ p hp z=>?_⟩
 · obtain ⟨v,q⟩:=I.cell x c e
   exact absurd (Nat.lt_of_lt_of_le q.lt (by rw [z]; exact hb)) (Nat.lt_irrefl _)
 · exact absurd (Nat.lt_of_lt_of_le (Heap.lt_size (I.pin p hp).1) (by rw [z]; exact hb)) (Nat.lt_irrefl _)
structure Turn (P:Program) (w:World) (K:Fq) (tg:Expr) (J:It) (fp:List Addr) (it:Addr) (tn:Nat->Heap->Prop):Prop where
 mem:it∈fp
 obj:∀ i h,tn i h->∀ b∈fp,∃ o,h.get? b=some o/\∀ v,o.data≠.cell v
 keep:∀ i h h',tn i h->(∀ b∈fp,∀ o,h.get? b=some o->h'.get? b=some o)->tn i h'
 item:∀ (X:Cx),X.prog=P->X.w=w->X.K=K->X.calm=true->∀ (i:Nat) (pins:List (Addr×Obj)) (s:Shared) (σ:St) (H:Hp) (E:Value->Shared->Prop),Inv X pins σ H s->(∀ b∈fp,FpOk X pins H b)->tn i s.heap->J.go i H ->
  wpAny (model P w) X.A (pyNext (.ref it)) (λ r s1=>∃ u,r=some u /\
   wpAny (model P w) X.A (letOwnedTupleGo tg (.ref it) u) (λ _ s2=>∃ x H',Inv X pins σ H' s2/\RelV x u/\J.yld i H x H'/\tn (i+1) s2.heap/\∀ b∈fp,H' b=none) E s1) E s
 done:∀ (X:Cx),X.prog=P->X.w=w->X.K=K->X.calm=true->∀ (i:Nat) (pins:List (Addr×Obj)) (s:Shared) (σ:St) (H:Hp) (E:Value->Shared->Prop),Inv X pins σ H s->(∀ b∈fp,FpOk X pins H b)->tn i s.heap->J.stop i H ->
  wpAny (model P w) X.A (pyNext (.ref it)) (λ r s1=>r=none/\Inv X pins σ H s1) E s
 self:∀ (A:Around) (i:Nat) (s:Shared) (Q:Value->Shared->Prop) (E:Value->Shared->Prop),tn i s.heap->Q (.ref it) s->wpAny (model P w) A (pyIter (.ref it)) Q E s
abbrev TI:=St->Hp->(It->Hp->Prop)->Prop
def PIE (X:Cx) (pins:List (Addr×Obj)) (σ:St) (tg:Expr) (R:It->Hp->Prop) (itv:Value) (s2:Shared):Prop :=
 ∃ (it:Addr) (fp:List Addr) (tn:Nat->Heap->Prop) (J:It) (H':Hp),itv=.ref it/\Inv X pins σ H' s2/\Turn X.prog X.w X.K tg J fp it tn/\tn 0 s2.heap/\(∀ b∈fp,FpOk X pins H' b)/\R J H'
def PI (X:Cx) (tg iter:Expr) (wi:TI):Prop :=
 ∀ (pins:List (Addr×Obj)) (s:Shared) (σ:St) (H:Hp) (R:It->Hp->Prop),Inv X pins σ H s->wi σ H R ->
   wpAny (model X.prog X.w) X.A (eval iter X.env) (λ v s1=>wpAny (model X.prog X.w) X.A (pyIter v) (PIE X pins σ tg R) X.xe s1) X.xe s
theorem Zk0 {M:Model} {A:Around} {E:Value->Shared->Prop} {s:Shared} {tg:Expr} {it:Addr} {u:Value} {o:Obj} {n:String} {vs:Array Value} {Q:Unit->Shared->Prop} (ho:s.heap.get? it=some o) (hc:o.cls=.type n) (hd:o.data=.fields vs)
 (hn:["enumerate","zip","dict_itemiterator","dict_reverseitemiterator","odict_iterator","itertools.zip_longest","itertools.pairwise"].contains n=false) (hQ:Q () s):wpAny M A (letOwnedTupleGo tg (.ref it) u) Q E s:=by
 unfold letOwnedTupleGo
 cases tg <;> first
  | exact wpAny_pure hQ
  | (cases u <;> first
   | exact wpAny_pure hQ
   | (refine wpAny_bind (wpAny_load ho ?_)
      rw [hc,hd]
      show wpAny M A (if (["enumerate","zip","dict_itemiterator","dict_reverseitemiterator","odict_iterator","itertools.zip_longest","itertools.pairwise"].contains n && vs[0]? == some (rawInt _))=true then _ else _) Q E s
      rw [if_neg (by intro h; rw [hn,Bool.false_and] at h; cases h)]
      exact wpAny_pure hQ))
def Itl (K:Fq) (a:Addr):It :=
 ⟨λ i H=>∃ xs x,SqL K H a xs/\xs[i]?=some x,λ i H x H'=>H'=H/\∀ xs,SqL K H a xs->xs[i]?=some x,λ i H=>∃ xs,SqL K H a xs/\xs.length<=i⟩
def Itt (K:Fq) (a:Addr):It :=
 ⟨λ i H=>∃ xs x,SqT K H a xs/\xs[i]?=some x,λ i H x H'=>H'=H/\∀ xs,SqT K H a xs->xs[i]?=some x,λ i H=>∃ xs,SqT K H a xs/\xs.length<=i⟩
def Itr (lo:Int) (n:Nat):It:=⟨λ i _=>i<n,λ i H x H'=>H'=H/\x=.int (lo+i),λ i _=>n<=i⟩
theorem Zvc {P:Program} {w:World} {K:Fq} {tg:Expr} (a it:Addr):Turn P w K tg (Itl K a) [it] it (λ i h=>h.IsListIter it a i) where
 mem:=by simp
 obj:=λ i h st b hb=>by
  have e:b=it:=by simpa using hb
  subst e
  obtain ⟨o,e,c,d⟩:=st
  exact ⟨o,e,λ v z=>by rw [d] at z; cases z⟩
 keep:=λ i h h' st k=>st.at λ o e=>k it (by simp) o e
 item:=by
  intro X hP hw hK hc i pins s σ H E I hf st hg
  subst hP hw hK
  obtain ⟨xs,x,hq,hx⟩:=hg
  obtain ⟨its,rv,p,hz⟩:=I.list hq
  obtain ⟨u,hu,ru⟩:=rv.get hx
  obtain ⟨f0,f1,f2,f3,f4,f5⟩:=hf it (by simp)
  refine wpAny_pyNext_list_item st p.isList (x:=u) (by simpa using hu) λ h' st' sb=>?_
  have I1:Inv X pins σ H { s with heap:=h' }:=I.turned (t':=s.toks) (λ b o hb e=>(sb.2 b hb).trans e) f0 f1 f3 f4 f5
  obtain ⟨o,e,c,d⟩:=id st'
  exact ⟨u,rfl,Zk0 (s:={ s with heap:=h' }) e c d (by decide) ⟨x,H,I1,ru,⟨rfl,λ ys hy=>by rw [I.list_inj hy hq]; exact hx⟩,st',λ b hb=>(hf b hb).1⟩⟩
 done:=by
  intro X hP hw hK hc i pins s σ H E I hf st hg
  subst hP hw hK
  obtain ⟨xs,hq,hx⟩:=hg
  obtain ⟨its,rv,p,hz⟩:=I.list hq
  obtain ⟨f0,f1,f2,f3,f4,f5⟩:=hf it (by simp)
  have hl:=rv.length
  exact wpAny_pyNext_list_end (I.ok.hd hc) st p.isList (by simp; omega) λ h' eb=>⟨rfl,I.turned (t':=s.toks) (λ b o hb e=>eb b o hb e) f0 f1 f3 f4 f5⟩
 self:=λ _ _ _ _ _ st h=>wpAny_pyIter_listiter st h
theorem Ztl {P:Program} {w:World} {K:Fq} {tg:Expr} (a it:Addr):Turn P w K tg (Itt K a) [it] it (λ i h=>h.IsTupleIter it a i) where
 mem:=by simp
 obj:=λ i h st b hb=>by
  have e:b=it:=by simpa using hb
  subst e
  obtain ⟨o,e,c,d⟩:=st
  exact ⟨o,e,λ v z=>by rw [d] at z; cases z⟩
 keep:=λ i h h' st k=>st.at λ o e=>k it (by simp) o e
 item:=by
  intro X hP hw hK hc i pins s σ H E I hf st hg
  subst hP hw hK
  obtain ⟨xs,x,hq,hx⟩:=hg
  obtain ⟨its,rv,p,hz⟩:=I.tuple hq
  obtain ⟨u,hu,ru⟩:=rv.get hx
  obtain ⟨f0,f1,f2,f3,f4,f5⟩:=hf it (by simp)
  refine wpAny_pyNext_tuple_item st (show s.heap.IsTuple a its.toArray from p) (x:=u) (by simpa using hu) λ h' st' sb=>?_
  have I1:Inv X pins σ H { s with heap:=h' }:=I.turned (t':=s.toks) (λ b o hb e=>(sb.2 b hb).trans e) f0 f1 f3 f4 f5
  obtain ⟨o,e,c,d⟩:=id st'
  exact ⟨u,rfl,Zk0 (s:={ s with heap:=h' }) e c d (by decide) ⟨x,H,I1,ru,⟨rfl,λ ys hy=>by rw [I.tuple_inj hy hq]; exact hx⟩,st',λ b hb=>(hf b hb).1⟩⟩
 done:=by
  intro X hP hw hK hc i pins s σ H E I hf st hg
  subst hP hw hK
  obtain ⟨xs,hq,hx⟩:=hg
  obtain ⟨its,rv,p,hz⟩:=I.tuple hq
  obtain ⟨f0,f1,f2,f3,f4,f5⟩:=hf it (by simp)
  have hl:=rv.length
  exact wpAny_pyNext_tuple_end (I.ok.hd hc) st (show s.heap.IsTuple a its.toArray from p) (by simp; omega) λ h' eb=>⟨rfl,I.turned (t':=s.toks) (λ b o hb e=>eb b o hb e) f0 f1 f3 f4 f5⟩
 self:=λ _ _ _ _ _ st h=>wpAny_pyIter_tupleiter st h
theorem Ztm {P:Program} {w:World} {K:Fq} {tg:Expr} (it:Addr) (lo:Int) (n:Nat):Turn P w K tg (Itr lo n) [it] it (λ i h=>IsRangeIter h it (lo+(i:Nat)*1) ((n:Int)-(i:Nat)) 1) where
 mem:=by simp
 obj:=λ i h st b hb=>by
  have e:b=it:=by simpa using hb
  subst e
  exact ⟨_,st,λ v z=>by
   have z':Data.fields _=Data.cell v:=z
   cases z'⟩
 keep:=λ i h h' st k=>k it (by simp) _ st
 item:=by
  intro X hP hw hK hc i pins s σ H E I hf st hg
  subst hP hw hK
  obtain ⟨f0,f1,f2,f3,f4,f5⟩:=hf it (by simp)
  have W:=Walks.range (prog:=X.prog) (w:=X.w) (I.ok.hd hc) it lo 1 n
  refine W.item i s _ _ hg st λ v h' tk hv st' kk=>?_
  obtain ⟨t,rfl⟩:=hv
  have I1:Inv X pins σ H { s with heap:=h',toks:=tk }:=I.turned (λ b o hb e=>kk b o (by simpa using hb) e) f0 f1 f3 f4 f5
  refine ⟨_,rfl,Zk0 (s:={ s with heap:=h',toks:=tk }) (n:="range_iterator") st' rfl rfl (by decide) ⟨.int (lo+i),H,I1,⟨t,?_⟩,⟨rfl,rfl⟩,st',λ b hb=>(hf b hb).1⟩⟩
  rw [Int.mul_one]
 done:=by
  intro X hP hw hK hc i pins s σ H E I hf st hg
  subst hP hw hK
  obtain ⟨f0,f1,f2,f3,f4,f5⟩:=hf it (by simp)
  exact wpAny_pyNext_range_end (I.ok.hd hc) st (by have:n<=i:=hg; omega) λ h' eb=>⟨rfl,I.turned (t':=s.toks) (λ b o hb e=>eb b o hb e) f0 f1 f3 f4 f5⟩
 self:=λ _ _ _ _ _ st h=>wpAny_pyIter_rangeiter st h
end L2
namespace L2
open PySem PySem.Spec PyProof.Rows
section
variable {X:Cx} {tg:Expr}
theorem Zx0 {pins:List (Addr×Obj)} {σ:St} {H:Hp} {s:Shared} {R:It->Hp->Prop} {E:Value->Shared->Prop} {lo hi:Int} {t u v:Tok} {tk:Nat} (I:Inv X pins σ H s) (h1:-(2 ^ 62)<=lo) (h2:lo<2 ^ 62) (h3:-(2 ^ 62)<=hi) (h4:hi<2 ^ 62)
 (q:R (Itr lo (hi-lo).toNat) H):wpAny (model X.prog X.w) X.A (pyIter (.ref s.heap.objs.size)) (PIE X pins σ tg R) E { s with heap:=s.heap.push { cls:=.type "range",data:=.fields #[.int lo t,.int hi u,.int 1 v] },toks:=tk }:=by
 refine wpAny_pyIter_range (IsRange.new ..) (small_one h1 h2 h3 h4) ?_
 have I1:Inv X pins σ H { s with heap:=s.heap.push { cls:=.type "range",data:=.fields #[.int lo t,.int hi u,.int 1 v] },toks:=tk }:=I.kept λ b o e=>Heap.get?_push_of_some _ e
 refine ⟨(s.heap.push { cls:=.type "range",data:=.fields #[.int lo t,.int hi u,.int 1 v] }).objs.size,[(s.heap.push { cls:=.type "range",data:=.fields #[.int lo t,.int hi u,.int 1 v] }).objs.size],_,_,H,rfl,
  I1.kept (t':=tk) λ b o e=>Heap.get?_push_of_some _ e,Ztm _ lo (hi-lo).toNat,?_,λ b hb=>?_,q⟩
 · have e1:lo+((0:Nat):Int)*1=lo:=by simp
   have e2:(((hi-lo).toNat:Nat):Int)-((0:Nat):Int)=Builtin.Range.rangeSize lo hi 1:=by rw [rangeSize_one]; split <;> omega
   show IsRangeIter _ _ (lo+((0:Nat):Int)*1) ((((hi-lo).toNat:Nat):Int)-((0:Nat):Int)) 1
   rw [e1,e2]
   exact Heap.get?_push_size _ rfl
 · have e:b=(s.heap.push { cls:=.type "range",data:=.fields #[.int lo t,.int hi u,.int 1 v] }).objs.size:=by simpa using hb
   subst e
   exact I1.fpOk (Nat.le_refl _) (I1.hok.fresh (Nat.le_refl _))
def Wk (ta:TA):TI:=λ σ H R=>ta σ H λ vs H1=>∃ j:Int,vs=[.int j]/\-(2 ^ 62)<=j/\j<2 ^ 62/\R (Itr 0 j.toNat) H1
theorem Zvt {a:Expr} {ta:TA} {p pos:Pos} (hg:Gl X "range") (hm:X.mg "range"=none) (ha:PA X [a] ta) (hs:starEach [a] X.env=[(false,eval a X.env)]:=by rfl):PI X tg (.Call (.Name "range" p) [a] [] pos) (Wk ta):=by
 intro pins s σ H R I h
 refine Call_ (Zet I hg hm boot_range (PyProof.Rows.callWith_type1 (thn (ha pos pins s σ H _ I h) λ us s1 ⟨vs,H1,I1,r1,q1⟩=>?_) hs rfl))
 obtain ⟨j,e,q1,q2,q⟩:=q1
 subst e
 cases r1 with
 | cons r rr =>
   cases rr
   obtain ⟨t,rfl⟩:=r
   exact call_range_1 (Zx0 I1 (by omega) (by omega) q1 q2 (by simpa using q))
def Zbq (wi:TI) (g:TG) (tb:TS):TS:=λ D σ H=>wi σ H λ J H1=>∃ W:Nat->Nat->St->Hp->Prop,(∃ m,W 0 m σ H1)/\∀ i m σ H,W i m σ H ->
 (J.stop i H/\D.nx σ H)\/(J.go i H/\∃ N:St->Hp->Prop,(∀ σ' H',N σ' H'->∃ m',m'<m/\W (i+1) m' σ' H')/\∀ x H',J.yld i H x H'->g x σ H' λ σ2 H2=>tb { D with nx:=N,ct:=N,bk:=D.nx } σ2 H2)
def Zcm (fp:List Addr) (h:Heap):List (Addr×Obj):=fp.filterMap λ b=>(h.get? b).map λ o=>(b,o)
theorem Ww {fp:List Addr} {h:Heap} {b:Addr} {o:Obj} (hb:b∈fp) (e:h.get? b=some o):(b,o)∈Zcm fp h:=List.mem_filterMap.mpr ⟨b,hb,by rw [e]; rfl⟩
theorem Zv2 {fp:List Addr} {h:Heap} {p:Addr×Obj} (hp:p∈Zcm fp h):p.1∈fp/\h.get? p.1=some p.2:=by
 obtain ⟨b,hb,e⟩:=List.mem_filterMap.mp hp
 cases q:h.get? b with
 | none=>rw [q] at e; cases e
 | some o =>
   rw [q] at e
   have e':(b,o)=p:=Option.some.inj e
   subst e'
   exact ⟨hb,q⟩
theorem Inv.pinned {pins:List (Addr×Obj)} {σ:St} {H:Hp} {s:Shared} {fp:List Addr} (I:Inv X pins σ H s) (hf:∀ b∈fp,FpOk X pins H b) (ho:∀ b∈fp,∃ o,s.heap.get? b=some o/\∀ v,o.data≠.cell v):Inv X (pins++Zcm fp s.heap) σ H s :=
 I.pins_of λ p hp=>(List.mem_append.mp hp).elim (λ z=>I.pin p (List.mem_append_right _ z)) λ z=>by
  obtain ⟨hb,e⟩:=Zv2 z
  obtain ⟨f0,f1,f2,_⟩:=hf p.1 hb
  obtain ⟨o,e',d⟩:=ho p.1 hb
  rw [e] at e'; cases e'
  exact ⟨e,f0,f1,f2,d⟩
theorem Inv.unpinned {pins pl:List (Addr×Obj)} {σ:St} {H:Hp} {s:Shared} (I:Inv X (pins++pl) σ H s):Inv X pins σ H s:=I.pins_of λ p hp=>I.pin p (List.mem_append_right _ (List.mem_append_left _ hp))
theorem Eb {iter:Expr} {body:List Stmt} {wi:TI} {g:TG} {tb:TS} {pos:Pos} (hp:PassesOwn (model X.prog X.w) X.A X.env X.xe) (hc:X.calm=true) (hi:PI X tg iter wi) (hg:PG X tg g) (hb:PSs X body tb)
 (hs:∀ x,foldedSetIterable iter X.env x=pure x:=by intro _; rfl):PS X (.For tg iter body [] pos) (Zbq wi g tb):=by
 intro pins s σ H D I h
 refine wpAny_For (thn (hi pins s σ H _ I h) λ v s1 h1=>thn h1 λ itv s2 h2=>?_) hs
 obtain ⟨it,fp,tn,J,H2,e,I2,T,st2,f2,W,⟨m0,w0⟩,turn⟩:=h2
 subst e
 have stat:∀ {H':Hp},(∀ b∈fp,H' b=none)->∀ b∈fp,FpOk X pins H' b:=λ hn b hb=>⟨hn b hb,(f2 b hb).2⟩
 refine codeAny_forLoop_any (λ n s'=>∃ i σ' H',Inv X pins σ' H' s'/\tn i s'.heap/\(∀ b∈fp,H' b=none)/\W i n σ' H') ?_ m0 ⟨0,σ,H2,I2,st2,λ b hb=>(f2 b hb).1,w0⟩
 rintro n s3 ⟨i,σ3,H3,I3,st3,fr3,w3⟩
 rcases turn i n σ3 H3 w3 with ⟨stop,qn⟩ | ⟨go,N,hN,step⟩
 · refine wpAny_passesOwn hp (thn (T.done X rfl rfl rfl hc i pins s3 σ3 H3 X.xe I3 (stat fr3) st3 stop) λ r s4 ⟨hr,I4⟩=>?_)
   subst hr
   exact wpAny_execs_nil ⟨σ3,H3,I4,qn⟩
 · refine wpAny_passesOwn hp (thn (T.item X rfl rfl rfl hc i pins s3 σ3 H3 X.xe I3 (stat fr3) st3 go) λ r s4 ⟨u,hr,h4⟩=>?_)
   subst hr
   refine wpAny_passesOwn hp (thn h4 λ _ s5 ⟨x,H5,I5,r5,y5,st5,fr5⟩=>?_)
   have I5':=I5.pinned (stat fr5) (T.obj _ _ st5)
   refine wpAny_passesOwn hp (thn (hg _ s5 σ3 H5 x u _ I5' r5 (step x H5 y5)) λ _ s6 ⟨σ6,H6,I6,q6⟩=>?_)
   refine wpAny_passesOwn hp (thn (hb _ s6 σ6 H6 _ I6 q6) λ f s7 q7=>?_)
   have again:∀ {σ7:St} {H7:Hp},Inv X (pins++Zcm fp s5.heap) σ7 H7 s7->N σ7 H7->∃ m,m<n/\∃ i σ' H',Inv X pins σ' H' s7/\tn i s7.heap/\(∀ b∈fp,H' b=none)/\W i m σ' H':=λ {σ7 H7} I7 n7=>by
    obtain ⟨m',hm,w7⟩:=hN σ7 H7 n7
    refine ⟨m',hm,i+1,σ7,H7,I7.unpinned,T.keep _ _ _ st5 λ b hb o e=>(I7.pin (b,o) (List.mem_append_right _ (List.mem_append_right _ (Ww hb e)))).1,λ b hb=>?_,w7⟩
    obtain ⟨o,e,d⟩:=T.obj _ _ st5 b hb
    exact (I7.pin (b,o) (List.mem_append_right _ (List.mem_append_right _ (Ww hb e)))).2.1
   cases f with
   | next=>obtain ⟨σ7,H7,I7,n7⟩:=q7; exact again I7 n7
   | cont=>obtain ⟨σ7,H7,I7,n7⟩:=q7; exact again I7 n7
   | brk=>obtain ⟨σ7,H7,I7,q7⟩:=q7; exact ⟨σ7,H7,I7.unpinned,q7⟩
   | ret v=>obtain ⟨x7,σ7,H7,I7,r7,q7⟩:=q7; exact ⟨x7,σ7,H7,I7.unpinned,r7,q7⟩
end
theorem Zq0 {K:Fq} {a:Addr} {xs:List V} {g:TG} {tb:TS} {D:Ends} {σ:St} {H:Hp} (Pv:Nat->St->Hp->Prop) (h0:Pv 0 σ H) (hl:∀ i σ H,i<=xs.length->Pv i σ H->SqL K H a xs)
 (hs:∀ i x σ H,xs[i]?=some x->Pv i σ H->g x σ H λ σ2 H2=>tb { D with nx:=Pv (i+1),ct:=Pv (i+1),bk:=D.nx } σ2 H2) (hd:∀ σ H,Pv xs.length σ H->D.nx σ H) :
 ∃ W:Nat->Nat->St->Hp->Prop,(∃ m,W 0 m σ H)/\∀ i m σ H,W i m σ H ->
   ((Itl K a).stop i H/\D.nx σ H)\/((Itl K a).go i H/\∃ N:St->Hp->Prop,(∀ σ' H',N σ' H'->∃ m',m'<m/\W (i+1) m' σ' H')/\∀ x H',(Itl K a).yld i H x H'->g x σ H' λ σ2 H2=>tb { D with nx:=N,ct:=N,bk:=D.nx } σ2 H2):=by
 refine ⟨λ i m σ H=>m=xs.length-i/\i<=xs.length/\Pv i σ H,⟨xs.length,by simp,Nat.zero_le _,h0⟩,?_⟩
 rintro i m σ H ⟨rfl,hi,p⟩
 have q:=hl i σ H hi p
 by_cases hlt:i<xs.length
 · refine .inr ⟨⟨xs,xs[i],q,by simp [hlt]⟩,Pv (i+1),λ σ' H' p'=>⟨xs.length-(i+1),by omega,rfl,hlt,p'⟩,λ x H' y=>?_⟩
   obtain ⟨e,y⟩:=y
   subst e
   exact hs i x σ _ (y xs q) p
 · have e:i=xs.length:=by omega
   subst e
   exact .inl ⟨⟨xs,q,Nat.le_refl _⟩,hd σ H p⟩
theorem Zwu {lo:Int} {n:Nat} {g:TG} {tb:TS} {D:Ends} {σ:St} {H:Hp} (Pv:Nat->St->Hp->Prop) (h0:Pv 0 σ H)
 (hs:∀ i σ H,i<n->Pv i σ H->g (.int (lo+i)) σ H λ σ2 H2=>tb { D with nx:=Pv (i+1),ct:=Pv (i+1),bk:=D.nx } σ2 H2) (hd:∀ σ H,Pv n σ H->D.nx σ H) :
 ∃ W:Nat->Nat->St->Hp->Prop,(∃ m,W 0 m σ H)/\∀ i m σ H,W i m σ H ->
   ((Itr lo n).stop i H/\D.nx σ H)\/((Itr lo n).go i H/\∃ N:St->Hp->Prop,(∀ σ' H',N σ' H'->∃ m',m'<m/\W (i+1) m' σ' H')/\∀ x H',(Itr lo n).yld i H x H'->g x σ H' λ σ2 H2=>tb { D with nx:=N,ct:=N,bk:=D.nx } σ2 H2):=by
 refine ⟨λ i m σ H=>m=n-i/\i<=n/\Pv i σ H,⟨n,by simp,Nat.zero_le _,h0⟩,?_⟩
 rintro i m σ H ⟨rfl,hi,p⟩
 by_cases hlt:i<n
 · refine .inr ⟨hlt,Pv (i+1),λ σ' H' p'=>⟨n-(i+1),by omega,rfl,hlt,p'⟩,λ x H' y=>?_⟩
   obtain ⟨e,y⟩:=y
   subst e y
   exact hs i σ _ hlt p
 · have e:i=n:=by omega
   subst e
   exact .inl ⟨Nat.le_refl _,hd σ H p⟩
end L2
namespace L2
open PySem PySem.Spec PyProof.Rows
abbrev R2:=V->V->Hp->VK->Prop
def OpR (X:Cx) (f:Value->Value->Sem Value) (r:R2):Prop :=
 ∀ (pins:List (Addr×Obj)) (s:Shared) (σ:St) (H:Hp) (x y:V) (v u:Value) (Q:VK),Inv X pins σ H s->RelV x v->RelV y u->r x y H Q ->
   wpAny (model X.prog X.w) X.A (f v u) (EP X pins σ Q) X.xe s
def UnR (X:Cx) (f:Value->Sem Value) (r:V->Hp->VK->Prop):Prop :=
 ∀ (pins:List (Addr×Obj)) (s:Shared) (σ:St) (H:Hp) (x:V) (v:Value) (Q:VK),Inv X pins σ H s->RelV x v->r x H Q ->
   wpAny (model X.prog X.w) X.A (f v) (EP X pins σ Q) X.xe s
def CallR (X:Cx) (f:Value) (r:List V->Hp->VK->Prop):Prop :=
 ∀ (pins:List (Addr×Obj)) (s:Shared) (σ:St) (H:Hp) (xs:List V) (us:List Value) (Q:VK),Inv X pins σ H s->Vals xs us->r xs H Q ->
   wpAny (model X.prog X.w) X.A (call f us) (EP X pins σ Q) X.xe s
def TruR (X:Cx) (r:V->Hp->(Bool->Hp->Prop)->Prop):Prop :=
 ∀ (pins:List (Addr×Obj)) (s:Shared) (σ:St) (H:Hp) (x:V) (v:Value) (Q:Bool->Hp->Prop),Inv X pins σ H s->RelV x v->r x H Q ->
   wpAny (model X.prog X.w) X.A (truthy v) (TP X pins σ Q) X.xe s
def tOp (r:R2) (ta tb:TE):TE:=λ σ H Q=>ta σ H λ x H1=>tb σ H1 λ y H2=>r x y H2 Q
def tUn (r:V->Hp->VK->Prop) (ta:TE):TE:=λ σ H Q=>ta σ H λ x H1=>r x H1 Q
def rI (C:Int->Int->Prop) (g:Int->Int->V):R2:=λ x y H Q=>∃ i j,x=.int i/\y=.int j/\C i j/\Q (g i j) H
def rI0 (g:Int->Int->V):R2:=λ x y H Q=>∃ i j,x=.int i/\y=.int j/\Q (g i j) H
def rU (g:Int->V):V->Hp->VK->Prop:=λ x H Q=>∃ i,x=.int i/\Q (g i) H
section
variable {X:Cx} {a b c:Expr} {ta tb tc:TE} {pos:Pos}
theorem binT (ha:PE X a ta) (hb:PE X b tb) {pins:List (Addr×Obj)} {s:Shared} {σ:St} {H:Hp} {R:V->V->Hp->Prop} (I:Inv X pins σ H s)
 (h:ta σ H λ x H1=>tb σ H1 λ y H2=>R x y H2) {Q:Value->Shared->Prop} {f:Value->Value->Sem Value}
 (hf:∀ v u s2 x y H2,Inv X pins σ H2 s2->RelV x v->RelV y u->R x y H2->wpAny (model X.prog X.w) X.A (f v u) Q X.xe s2) :
 wpAny (model X.prog X.w) X.A (eval a X.env) (λ v s₁=>wpAny (model X.prog X.w) X.A (eval b X.env) (λ u s₂=>wpAny (model X.prog X.w) X.A (f v u) Q X.xe s₂) X.xe s₁) X.xe s:=by
 refine thn (ha pins s σ H _ I h) λ v s1 ⟨x,H1,I1,r1,q1⟩=>?_
 refine thn (hb pins s1 σ H1 _ I1 q1) λ u s2 ⟨y,H2,I2,r2,q2⟩=>?_
 exact hf v u s2 x y H2 I2 r1 r2 q2
theorem Zo {op:Operator} {r:R2} (ho:OpR X (binaryOp op) r) (ha:PE X a ta) (hb:PE X b tb):PE X (.BinOp a op b pos) (tOp r ta tb):=by
 intro pins s σ H Q I h
 exact wpAny_BinOp (binT ha hb I h λ v u s2 x y H2 I2 rx ry q=>ho pins s2 σ H2 x y v u Q I2 rx ry q)
theorem Zt5 {op:UnaryOp} {r:V->Hp->VK->Prop} (ho:UnR X (unaryOp op) r) (ha:PE X a ta):PE X (.UnaryOp op a pos) (tUn r ta):=by
 intro pins s σ H Q I h
 exact UnaryOp_ (thn (ha pins s σ H _ I h) λ v s1 ⟨x,H1,I1,r1,q1⟩=>ho pins s1 σ H1 x v Q I1 r1 q1)
theorem opI {f:Value->Value->Sem Value} {C:Int->Int->Prop} {g:Int->Int->Int}
 (rule:∀ (i j:Int) (t u:Tok) (s:Shared) (Q:Value->Shared->Prop) (E:Value->Shared->Prop),C i j->Q (.int (g i j) s.toks) { s with toks:=s.toks+1 }->wpAny (model X.prog X.w) X.A (f (.int i t) (.int j u)) Q E s) :
 OpR X f (rI C λ i j=>.int (g i j)):=by
 intro pins s σ H x y v u Q I rx ry h
 obtain ⟨i,j,rfl,rfl,hc,q⟩:=h
 obtain ⟨t,rfl⟩:=rx
 obtain ⟨t',rfl⟩:=ry
 exact rule i j t t' s _ _ hc ⟨.int (g i j),H,I.tok _,⟨_,rfl⟩,q⟩
theorem opI0 {f:Value->Value->Sem Value} {g:Int->Int->Int}
 (rule:∀ (i j:Int) (t u:Tok) (s:Shared) (Q:Value->Shared->Prop) (E:Value->Shared->Prop),Q (.int (g i j) s.toks) { s with toks:=s.toks+1 }->wpAny (model X.prog X.w) X.A (f (.int i t) (.int j u)) Q E s) :
 OpR X f (rI0 λ i j=>.int (g i j)):=by
 intro pins s σ H x y v u Q I rx ry h
 obtain ⟨i,j,rfl,rfl,q⟩:=h
 obtain ⟨t,rfl⟩:=rx
 obtain ⟨t',rfl⟩:=ry
 exact rule i j t t' s _ _ ⟨.int (g i j),H,I.tok _,⟨_,rfl⟩,q⟩
theorem opB0 {f:Value->Value->Sem Value} {g:Int->Int->Bool}
 (rule:∀ (i j:Int) (t u:Tok) (s:Shared) (Q:Value->Shared->Prop) (E:Value->Shared->Prop),Q (.bool (g i j)) s->wpAny (model X.prog X.w) X.A (f (.int i t) (.int j u)) Q E s) :
 OpR X f (rI0 λ i j=>.bl (g i j)):=by
 intro pins s σ H x y v u Q I rx ry h
 obtain ⟨i,j,rfl,rfl,q⟩:=h
 obtain ⟨t,rfl⟩:=rx
 obtain ⟨t',rfl⟩:=ry
 exact rule i j t t' s _ _ ⟨.bl (g i j),H,I,rfl,q⟩
def CPow (i j:Int):Prop:=0<=j/\j<=1000000/\i.natAbs<2 ^ 64
theorem Z2g:OpR X (binaryOp .Add) (rI0 λ i j=>.int (i+j)):=opI0 λ _ _ _ _ _ _ _ q=>add_int q
theorem Z2b:OpR X (binaryOp .Sub) (rI0 λ i j=>.int (i-j)):=opI0 λ _ _ _ _ _ _ _ q=>sub_int q
theorem Z2e:OpR X (binaryOp .Mod) (rI (λ _ j=>0<j) λ i j=>.int (i % j)):=opI λ i j _ _ _ _ _ hc q=>by
 have h1:(0:Int)<j:=hc
 exact mod_int' (by omega) (by rw [Int.fmod_eq_emod_of_nonneg i (by omega)]; exact q)
theorem Z2d:OpR X (binaryOp .Pow) (rI CPow λ i j=>.int (i ^ j.toNat)):=opI λ _ _ _ _ _ _ _ hc q=>pow_int_small hc.1 hc.2.1 hc.2.2 q
theorem unI {f:Value->Sem Value} {g:Int->Int}
 (rule:∀ (i:Int) (t:Tok) (s:Shared) (Q:Value->Shared->Prop) (E:Value->Shared->Prop),Q (.int (g i) s.toks) { s with toks:=s.toks+1 }->wpAny (model X.prog X.w) X.A (f (.int i t)) Q E s) :
 UnR X f (rU λ i=>.int (g i)):=by
 intro pins s σ H x v Q I rx h
 obtain ⟨i,rfl,q⟩:=h
 obtain ⟨t,rfl⟩:=rx
 exact rule i t s _ _ ⟨.int (g i),H,I.tok _,⟨_,rfl⟩,q⟩
theorem Zpd:UnR X (unaryOp .USub) (rU λ i=>.int (-i)):=unI λ _ _ _ _ _ q=>neg_int q
end
def scal:V->V->Bool
 | .non,.non=>true | .non,.int _=>true | .int _,.non=>true | .non,.bl _=>true | .bl _,.non=>true | .non,.str _=>true | .str _,.non=>true
 | .int _,.int _=>true | .bl _,.bl _=>true | .str _,.str _=>true | .byt _,.byt _=>true
 | .int _,.str _=>true | .str _,.int _=>true | .bl _,.str _=>true | .str _,.bl _=>true
 | _,_=>false
def rEq:R2:=λ x y H Q=>scal x y=true/\Q (.bl (decide (x=y))) H
def rNe:R2:=λ x y H Q=>scal x y=true/\Q (.bl (!decide (x=y))) H
theorem Zs5 {i j:Int}:decide (V.int i=V.int j)=(i == j):=by
 rw [Bool.eq_iff_iff]
 simp
theorem Zw2 {i j:Bool}:decide (V.bl i=V.bl j)=(i == j):=by
 rw [Bool.eq_iff_iff]
 simp
theorem Zs4 {i j:Str}:decide (V.str i=V.str j)=(i == j):=by
 rw [Bool.eq_iff_iff]
 simp
theorem Zs6 {i j:Array UInt8}:decide (V.byt i=V.byt j)=(i.toList == j.toList):=by
 rw [Bool.eq_iff_iff]
 cases i
 cases j
 simp
section
variable {X:Cx} {a b c:Expr} {ta tb tc:TE} {pos:Pos}
theorem Xa {pins:List (Addr×Obj)} {σ:St} {H:Hp} {s:Shared} {Q:VK} {k k':Bool} (I:Inv X pins σ H s) (q:Q (.bl k) H) (e:k=k'):EP X pins σ Q (.bool k') s:=by
 subst e
 exact ⟨.bl k,H,I,rfl,q⟩
theorem Z3h:OpR X (compareOp .Eq) rEq:=by
 intro pins s σ H x y v u Q I rx ry h
 obtain ⟨hs,q⟩:=h
 cases x with
 | non =>
   cases rx
   cases y with
   | non=>cases ry; exact PySem.EqNone.eq_none_none (Xa I q (by simp))
   | bl j=>cases ry; exact PySem.EqNone.eq_none_bool (Xa I q (by simp))
   | int j=>obtain ⟨t',rfl⟩:=ry; exact PySem.EqNone.eq_none_int (Xa I q (by simp))
   | str j=>obtain ⟨t',rfl⟩:=ry; exact PySem.EqNone.eq_none_str (Xa I q (by simp))
   | _=>exact absurd (show false=true from hs) Bool.false_ne_true
 | bl i =>
   cases rx
   cases y with
   | non=>cases ry; exact PySem.EqNone.eq_bool_none (Xa I q (by simp))
   | bl j=>cases ry; exact eq_bool (Xa I q Zw2)
   | str j=>obtain ⟨t',rfl⟩:=ry; exact PySem.EqMixed.eq_bool_str (Xa I q (by simp))
   | _=>exact absurd (show false=true from hs) Bool.false_ne_true
 | int i =>
   obtain ⟨t,rfl⟩:=rx
   cases y with
   | non=>cases ry; exact PySem.EqNone.eq_int_none (Xa I q (by simp))
   | int j=>obtain ⟨t',rfl⟩:=ry; exact eq_int (Xa I q Zs5)
   | str j=>obtain ⟨t',rfl⟩:=ry; exact PySem.EqMixed.eq_int_str (Xa I q (by simp))
   | _=>exact absurd (show false=true from hs) Bool.false_ne_true
 | str i =>
   obtain ⟨t,rfl⟩:=rx
   cases y with
   | non=>cases ry; exact PySem.EqNone.eq_str_none (Xa I q (by simp))
   | bl j=>cases ry; exact PySem.EqMixed.eq_str_bool (Xa I q (by simp))
   | int j=>obtain ⟨t',rfl⟩:=ry; exact PySem.EqMixed.eq_str_int (Xa I q (by simp))
   | str j=>obtain ⟨t',rfl⟩:=ry; exact eq_str (Xa I q Zs4)
   | _=>exact absurd (show false=true from hs) Bool.false_ne_true
 | byt i =>
   obtain ⟨t,rfl⟩:=rx
   cases y with
   | byt j=>obtain ⟨t',rfl⟩:=ry; exact PySem.W.eq_bytes (Xa I q Zs6)
   | _=>exact absurd (show false=true from hs) Bool.false_ne_true
 | _=>cases y <;> exact absurd (show false=true from hs) Bool.false_ne_true
theorem Z3g:OpR X (compareOp .NotEq) rNe:=by
 intro pins s σ H x y v u Q I rx ry h
 obtain ⟨hs,q⟩:=h
 cases x with
 | non =>
   cases rx
   cases y with
   | non=>cases ry; exact PySem.EqNone.ne_none_none (Xa I q (by simp))
   | bl j=>cases ry; exact PySem.EqNone.ne_none_bool (Xa I q (by simp))
   | int j=>obtain ⟨t',rfl⟩:=ry; exact PySem.EqNone.ne_none_int (Xa I q (by simp))
   | str j=>obtain ⟨t',rfl⟩:=ry; exact PySem.EqNone.ne_none_str (Xa I q (by simp))
   | _=>exact absurd (show false=true from hs) Bool.false_ne_true
 | bl i =>
   cases rx
   cases y with
   | non=>cases ry; exact PySem.EqNone.ne_bool_none (Xa I q (by simp))
   | bl j=>cases ry; exact ne_bool (Xa I q (congrArg not Zw2))
   | str j=>obtain ⟨t',rfl⟩:=ry; exact PySem.EqMixed.ne_bool_str (Xa I q (by simp))
   | _=>exact absurd (show false=true from hs) Bool.false_ne_true
 | int i =>
   obtain ⟨t,rfl⟩:=rx
   cases y with
   | non=>cases ry; exact PySem.EqNone.ne_int_none (Xa I q (by simp))
   | int j=>obtain ⟨t',rfl⟩:=ry; exact ne_int (Xa I q (congrArg not Zs5))
   | str j=>obtain ⟨t',rfl⟩:=ry; exact PySem.EqMixed.ne_int_str (Xa I q (by simp))
   | _=>exact absurd (show false=true from hs) Bool.false_ne_true
 | str i =>
   obtain ⟨t,rfl⟩:=rx
   cases y with
   | non=>cases ry; exact PySem.EqNone.ne_str_none (Xa I q (by simp))
   | bl j=>cases ry; exact PySem.EqMixed.ne_str_bool (Xa I q (by simp))
   | int j=>obtain ⟨t',rfl⟩:=ry; exact PySem.EqMixed.ne_str_int (Xa I q (by simp))
   | str j=>obtain ⟨t',rfl⟩:=ry; exact ne_str (Xa I q (congrArg not Zs4))
   | _=>exact absurd (show false=true from hs) Bool.false_ne_true
 | byt i =>
   obtain ⟨t,rfl⟩:=rx
   cases y with
   | byt j=>obtain ⟨t',rfl⟩:=ry; exact PySem.W.ne_bytes (Xa I q (congrArg not Zs6))
   | _=>exact absurd (show false=true from hs) Bool.false_ne_true
 | _=>cases y <;> exact absurd (show false=true from hs) Bool.false_ne_true
theorem Zt6:OpR X (compareOp .Lt) (rI0 λ i j=>.bl (decide (i<j))):=opB0 λ _ _ _ _ _ _ _ q=>lt_int q
theorem Hd:OpR X (compareOp .LtE) (rI0 λ i j=>.bl (decide (i<=j))):=opB0 λ _ _ _ _ _ _ _ q=>le_int q
theorem Zt7:OpR X (compareOp .Gt) (rI0 λ i j=>.bl (decide (j<i))):=opB0 λ _ _ _ _ _ _ _ q=>gt_int q
theorem Zvz:OpR X (compareOp .In) (λ x y H Q=>∃ i j,x=.str i/\y=.str j/\Q (.bl (!(Builtin.Str.occurrences j i 0 j.length 1).isEmpty)) H):=by
 intro pins s σ H x y v u Q I rx ry h
 obtain ⟨i,j,rfl,rfl,q⟩:=h
 obtain ⟨t,rfl⟩:=rx
 obtain ⟨t',rfl⟩:=ry
 exact in_str (Xa I q rfl)
theorem OpR.or {f:Value->Value->Sem Value} {r r':R2} (h:OpR X f r) (h':OpR X f r'):OpR X f (λ x y H Q=>r x y H Q\/r' x y H Q):=by
 intro pins s σ H x y v u Q I rx ry q
 rcases q with q | q
 · exact h pins s σ H x y v u Q I rx ry q
 · exact h' pins s σ H x y v u Q I rx ry q
theorem Yj (b:Expr) {op:CmpOp} (h:op≠.In:=by decide) (h2:op≠.NotIn:=by decide):behindInMarks op b=false:=by
 have e1:(op == CmpOp.In)=false:=by cases op <;> first | rfl | exact absurd rfl h
 have e2:(op == CmpOp.NotIn)=false:=by cases op <;> first | rfl | exact absurd rfl h2
 cases b <;> simp [behindInMarks,e1,e2]
theorem Qv {op:CmpOp} {r:R2} (ho:OpR X (compareOp op) r) (ha:PE X a ta) (hb:PE X b tb) (hm:behindInMarks op b=false):PE X (.Compare a [op] [b] pos) (tOp r ta tb):=by
 intro pins s σ H Q I h
 exact wpAny_Compare1 (binT ha hb I h λ v u s2 x y H2 I2 rx ry q=>ho pins s2 σ H2 x y v u Q I2 rx ry q) hm
def Y4 (t:TE):TT:=λ σ H Q=>t σ H λ x H'=>∃ k,x=.bl k/\Q k H'
theorem Yu {op:CmpOp} {r:R2} (ho:OpR X (compareOp op) r) (ha:PE X a ta) (hb:PE X b tb) (hm:behindInMarks op b=false):PT X (.Compare a [op] [b] pos) (Y4 (tOp r ta tb)):=by
 intro pins s σ H Q I h
 refine wpAny_isTrue_Compare1 (thn (ha pins s σ H _ I h) λ v s1 ⟨x,H1,I1,r1,q1⟩=>thn (hb pins s1 σ H1 _ I1 q1) λ u s2 ⟨y,H2,I2,r2,q2⟩ =>
  thn (ho pins s2 σ H2 x y v u _ I2 r1 r2 q2) λ c s3 ⟨z,H3,I3,r3,k,e,q3⟩=>?_) hm
 subst e
 cases r3
 exact wpAny_truthy_bool ⟨H3,I3,q3⟩
def Vu (r r':R2) (ta tb tc:TE):TE:=λ σ H Q=>ta σ H λ x H1=>tb σ H1 λ y H2=>r x y H2 λ z H3=>∃ k,z=.bl k /\
 (if k=true then tc σ H3 λ w' H4=>r' y w' H4 Q else Q (.bl false) H3)
theorem Zfv {op op':CmpOp} {r r':R2} (ho:OpR X (compareOp op) r) (ho':OpR X (compareOp op') r') (ha:PE X a ta) (hb:PE X b tb) (hc:PE X c tc)
 (hm:lastMarks [op,op'] [b,c]=false:=by with_unfolding_all rfl):PE X (.Compare a [op,op'] [b,c] pos) (Vu r r' ta tb tc):=by
 intro pins s σ H Q I h
 refine Compare_chain (thn (ha pins s σ H _ I h) λ v s1 ⟨x,H1,I1,r1,q1⟩=>chain_link (thn (hb pins s1 σ H1 _ I1 q1) λ u s2 ⟨y,H2,I2,r2,q2⟩ =>
  thn (ho pins s2 σ H2 x y v u _ I2 r1 r2 q2) λ d s3 ⟨z,H3,I3,r3,k,e,q3⟩=>?_)) hm
 subst e
 cases r3
 refine wpAny_truthy_bool ?_
 cases k with
 | false=>exact ite_ff ⟨.bl false,H3,I3,rfl,q3⟩
 | true=>exact ite_tt (chain_last (thn (hc pins s3 σ H3 _ I3 q3) λ w' s4 ⟨z',H4,I4,r4,q4⟩=>ho' pins s4 σ H4 y z' u w' Q I4 r2 r4 q4))
theorem Zqe {op op':CmpOp} {r r':R2} (ho:OpR X (compareOp op) r) (ho':OpR X (compareOp op') r') (ha:PE X a ta) (hb:PE X b tb) (hc:PE X c tc)
 (hm:lastMarks [op,op'] [b,c]=false:=by with_unfolding_all rfl):PT X (.Compare a [op,op'] [b,c] pos) (Y4 (Vu r r' ta tb tc)):=by
 intro pins s σ H Q I h
 refine isTrue_chain (thn (ha pins s σ H _ I h) λ v s1 ⟨x,H1,I1,r1,q1⟩=>test_link (thn (hb pins s1 σ H1 _ I1 q1) λ u s2 ⟨y,H2,I2,r2,q2⟩ =>
  thn (ho pins s2 σ H2 x y v u _ I2 r1 r2 q2) λ d s3 ⟨z,H3,I3,r3,k,e,q3⟩=>?_)) hm
 subst e
 cases r3
 refine wpAny_truthy_bool ?_
 cases k with
 | false =>
   obtain ⟨k',e',q'⟩:=q3
   cases e'
   exact ite_ff ⟨H3,I3,q'⟩
 | true =>
   refine ite_tt (test_last (thn (hc pins s3 σ H3 _ I3 q3) λ w' s4 ⟨z',H4,I4,r4,q4⟩=>thn (ho' pins s4 σ H4 y z' u w' _ I4 r2 r4 q4) λ d' s5 ⟨z2,H5,I5,r5,k2,e2,q5⟩=>?_))
   subst e2
   cases r5
   exact wpAny_truthy_bool ⟨H5,I5,q5⟩
def TruV (K:Fq) (x:V) (H:Hp) (k:Bool):Prop :=
 match x with
 | .non=>k=false
 | .bl b=>k=b
 | .int i=>k=(i != 0)
 | .str y=>y.length<=sizeLine/\k=((y.length:Int) != 0)
 | .byt y=>y.size<=sizeLine/\k=((y.size:Int) != 0)
 | .ref p=>(∃ xs,SqL K H p xs/\k=!xs.isEmpty)\/(∃ xs,SqT K H p xs/\k=!xs.isEmpty)\/∃ kvs,H p=some (.dK kvs)/\k=!kvs.isEmpty
 | _=>False
theorem Zuf {κ:Type} {kvs:List (κ×V)} {vs:List (κ×Value)} (r:KV kvs vs):(!vs.isEmpty)=!kvs.isEmpty:=by
 cases r <;> rfl
theorem Zkw {xs:List V} {its:List Value} (r:Vals xs its):(!its.toArray.isEmpty)=!xs.isEmpty:=by
 cases r <;> simp
theorem Zes:(sizeLine:Nat)<2 ^ 63:=by rw [sizeLine_eq]; decide
theorem Z1t:TruR X (λ x H Q=>∃ k,TruV X.K x H k/\Q k H):=by
 intro pins s σ H x v Q I rx h
 obtain ⟨k,e,q⟩:=h
 have hl:=Zes
 have hs:sizeLine=16777216:=sizeLine_eq
 cases x with
 | non =>
   cases rx
   have e':k=false:=e
   subst e'
   exact truthy_none ⟨H,I,q⟩
 | bl b =>
   cases rx
   have e':k=b:=e
   subst e'
   exact wpAny_truthy_bool ⟨H,I,q⟩
 | int i =>
   obtain ⟨t,rfl⟩:=rx
   have e':k=(i != 0):=e
   subst e'
   exact PySem.P.truthy_int ⟨H,I,q⟩
 | str y =>
   obtain ⟨t,rfl⟩:=rx
   obtain ⟨hy,e'⟩:y.length<=sizeLine/\k=((y.length:Int) != 0):=e
   subst e'
   exact PySem.P.truthy_str (by omega) ⟨H,I.tok _,q⟩
 | byt y =>
   obtain ⟨t,rfl⟩:=rx
   obtain ⟨hy,e'⟩:y.size<=sizeLine/\k=((y.size:Int) != 0):=e
   subst e'
   exact PySem.W.truthy_bytes (by omega) ⟨H,I.tok _,q⟩
 | ref p =>
   cases rx
   have e':(∃ xs,SqL X.K H p xs/\k=!xs.isEmpty)\/(∃ xs,SqT X.K H p xs/\k=!xs.isEmpty)\/∃ kvs,H p=some (.dK kvs)/\k=!kvs.isEmpty:=e
   rcases e' with ⟨xs,hx,e'⟩ | ⟨xs,hx,e'⟩ | ⟨kvs,hx,e'⟩
   · subst e'
     obtain ⟨its,r,pl,hz⟩:=I.list hx
     have hlen:=r.length
     exact wpAny_truthy_list pl.isList (by simp only [List.size_toArray]; omega) ⟨H,I.tok _,by rw [Zkw r]; exact q⟩
   · subst e'
     obtain ⟨its,r,pl,hz⟩:=I.tuple hx
     have hlen:=r.length
     exact truthy_tuple pl (by simp only [List.size_toArray]; omega) ⟨H,I.tok _,by rw [Zkw r]; exact q⟩
   · subst e'
     obtain ⟨hz,hS,vs,r,m⟩:kvs.length<=sizeLine/\(p == sysModules)=false/\∃ vs,KV kvs vs/\s.heap.DictOf (Yy X.prog X.w) p vs:=I.hok p _ hx
     have hlen:kvs.length=vs.length:=Paired.length r
     exact wpAny_truthy_dict hS m (by omega) ⟨H,I.tok _,by rw [Zuf r]; exact q⟩
 | _=>exact (show False from e).elim
theorem Zx1 (ha:PE X a ta) (he:∀ whole,isTrue a X.env whole=(do let v ← whole; standAt a.pos; holding [v] (truthy v))) :
 PT X a (λ σ H Q=>ta σ H λ x H'=>∃ k,TruV X.K x H' k/\Q k H'):=by
 intro pins s σ H Q I h
 exact isTrue_plain (thn (ha pins s σ H _ I h) λ v s1 ⟨x,H1,I1,r1,q1⟩=>Z1t pins s1 σ H1 x v Q I1 r1 q1) (he _)
theorem Zt8:OpR X (binaryOp .Add) (λ x y H Q=>∃ i j,x=.str i/\y=.str j/\i.length+j.length<=sizeLine/\Q (.str (i++j)) H):=by
 intro pins s σ H x y v u Q I rx ry h
 obtain ⟨i,j,rfl,rfl,hz,q⟩:=h
 obtain ⟨t,rfl⟩:=rx
 obtain ⟨t',rfl⟩:=ry
 exact add_str (λ t' tk=>⟨.str (i++j),H,I.tok _,⟨_,rfl⟩,q⟩) hz
theorem U4 {x:V} {us:List Value} (r:Vals [x] us):∃ u,us=[u]/\RelV x u:=by
 cases r with
 | cons r1 r2=>cases r2; exact ⟨_,rfl,r1⟩
theorem Zos {x y:V} {us:List Value} (r:Vals [x,y] us):∃ u w',us=[u,w']/\RelV x u/\RelV y w':=by
 cases r with
 | cons r1 r2 =>
   cases r2 with
   | cons r3 r4=>cases r4; exact ⟨_,_,rfl,r1,r3⟩
theorem Zxb:CallR X (.type "int") (λ xs H Q=>(∃ i,xs=[.int i]/\Q (.int i) H)\/∃ k,xs=[.bl k]/\Q (.int (if k then 1 else 0)) H):=by
 intro pins s σ H xs us Q I r h
 rcases h with ⟨i,rfl,q⟩ | ⟨k,rfl,q⟩
 · obtain ⟨u,rfl,t,rfl⟩:=U4 r
   exact call_int_int ⟨.int i,H,I,⟨_,rfl⟩,q⟩
 · obtain ⟨u,rfl,r1⟩:=U4 r
   cases r1
   exact call_int_bool ⟨.int (if k then 1 else 0),H,I.tok _,⟨_,rfl⟩,q⟩
theorem Zrn:CallR X (.type "str") (λ xs H Q=>∃ i,xs=[.int i]/\i.natAbs.log2<1920/\Q (.str (toString i)) H):=by
 intro pins s σ H xs us Q I r h
 obtain ⟨i,rfl,hz,q⟩:=h
 obtain ⟨u,rfl,t,rfl⟩:=U4 r
 exact PySem.P.str_of_int hz ⟨.str _,H,I.tok _,⟨_,rfl⟩,q⟩
def LenV (K:Fq) (x:V) (H:Hp) (n:Nat):Prop :=
 match x with
 | .str y=>y.length<=sizeLine/\n=y.length
 | .byt y=>y.size<=sizeLine/\n=y.size
 | .ref p=>(∃ xs,SqL K H p xs/\n=xs.length)\/∃ xs,SqT K H p xs/\n=xs.length
 | _=>False
theorem Zyv:CallR X (.builtin "len") (λ xs H Q=>∃ x n,xs=[x]/\LenV X.K x H n/\Q (.int n) H):=by
 intro pins s σ H xs us Q I r h
 obtain ⟨x,n,rfl,e,q⟩:=h
 obtain ⟨u,rfl,rx⟩:=U4 r
 have hl:=Zes
 have hs:sizeLine=16777216:=sizeLine_eq
 cases x with
 | str y =>
   obtain ⟨t,rfl⟩:=rx
   obtain ⟨hy,e'⟩:y.length<=sizeLine/\n=y.length:=e
   subst e'
   exact len_str (by omega) ⟨.int _,H,I.tok _,⟨_,rfl⟩,q⟩
 | byt y =>
   obtain ⟨t,rfl⟩:=rx
   obtain ⟨hy,e'⟩:y.size<=sizeLine/\n=y.size:=e
   subst e'
   exact PySem.W.len_bytes (by omega) ⟨.int _,H,I.tok _,⟨_,rfl⟩,q⟩
 | ref p =>
   cases rx
   have e':(∃ xs,SqL X.K H p xs/\n=xs.length)\/∃ xs,SqT X.K H p xs/\n=xs.length:=e
   rcases e' with ⟨xs,hx,e'⟩ | ⟨xs,hx,e'⟩
   · subst e'
     obtain ⟨its,r',pl,hz⟩:=I.list hx
     have hlen:=r'.length
     exact Calls.call_len_list pl.isList (by simp only [List.size_toArray]; omega) ⟨.int xs.length,H,I.tok _,⟨_,by simp only [List.size_toArray]; rw [hlen]⟩,q⟩
   · subst e'
     obtain ⟨its,r',pl,hz⟩:=I.tuple hx
     have hlen:=r'.length
     exact len_tuple pl (by simp only [List.size_toArray]; omega) ⟨.int xs.length,H,I.tok _,⟨_,by simp only [List.size_toArray]; rw [hlen]⟩,q⟩
 | _=>exact (show False from e).elim
end
end L2
namespace L2
open PySem PySem.Spec PyProof.Rows
structure ObjM (h:Heap) (x dx C:Addr) (mA:Str->Option Value):Prop where
 obj:h.get? x=some (PySem.W.instObj C dx)
 ns:h.Ns1 dx mA
 ne:dx≠x
theorem Zv7 {h:Heap} {dx:Addr} {mA:Str->Option Value} (n:h.Ns1 dx mA):∃ od,h.get? dx=some od/\∀ name,PySem.W.lookIn name od=some (mA name):=by
 obtain ⟨o,es,ep,ho,hd,hk,_,hm⟩:=n
 refine ⟨o,ho,λ name=>?_⟩
 have e:=hm name
 unfold nsFind findBy at e
 rw [← Array.find?_toList] at e
 unfold PySem.W.lookIn
 rw [hd]
 dsimp only
 split
 · rename_i y q
   rw [q] at e
   exact congrArg some e
 · rename_i q
   rw [q] at e
   have a:es.toList.any (·.refKey)=false:=by
    rw [List.any_eq_false]
    intro y hy
    obtain ⟨z,t,hkey⟩:=hk y (Array.mem_toList_iff.mp hy)
    simp [DictEntry.refKey,hkey]
   have a':¬ es.toList.any (·.refKey)=true:=by rw [a]; exact Bool.false_ne_true
   rw [if_neg a']
   exact congrArg some e
theorem ObjM.look {h:Heap} {x dx C:Addr} {mA:Str->Option Value} (I:ObjM h x dx C mA):∃ od,PySem.W.InstAt h x (PySem.W.instObj C dx) C (some od)/\∀ name,PySem.W.lookIn name od=some (mA name) :=
 let ⟨od,ho,hl⟩:=Zv7 I.ns
 ⟨od,⟨I.obj,rfl,rfl,ho⟩,hl⟩
section
variable {prog:Program} {w:World} {A:Around} {E:Value->Shared->Prop} {s:Shared} {K:Fq} {x dx C f:Addr} {mA:Str->Option Value} {name:Str} {v:Value}
theorem Z0t {expr:Bool} {Q:Value->Shared->Prop} (X:K.In s.heap) (I:ObjM s.heap x dx C mA) (hg:PySem.W.plainGet K C name=true) (hh:PySem.W.hasDictIn K C=true)
 (ha:PySem.W.findIn K (.ref C) name=some none) (hv:mA name=some v) (hv':PySem.W.handedIn v=true) (h:Q v { s with toks:=s.toks+1 }) :
 wpAny (model prog w) A (getAttr (.ref x) name expr) Q E s:=by
 obtain ⟨od,J,hl⟩:=I.look
 exact PySem.W.get_value X J (PySem.W.plainGet_of hg).1 (PySem.W.findObj_own hh ha rfl (by rw [hl,hv])) hv' h
theorem Zyk {pl:Sem Bool} {Q:Value×List Value->Shared->Prop} (X:K.In s.heap) (I:ObjM s.heap x dx C mA) (hg:PySem.W.plainGet K C name=true)
 (hf:PySem.W.findIn K (.ref C) name=some (some (.ref f))) (ht:PySem.W.isFn K (.ref f)=true) (hv:mA name=none) (h:Q (.ref f,[.ref x]) s) :
 wpAny (model prog w) A (getMethod (.ref x) name pl) Q E s:=by
 obtain ⟨od,J,hl⟩:=I.look
 exact PySem.W.method_fn X J (PySem.W.plainGet_of hg).1 (PySem.W.plainGet_of hg).2 hf (beq_iff_eq.mp ht) (by show (PySem.W.lookIn name od).map (·.isSome)=some false; rw [hl,hv]; rfl) h
theorem Zz1 {ns:List Str} {Q:Unit->Shared->Prop} (X:K.In s.heap) (I:ObjM s.heap x dx C mA)
 (hs:PySem.W.findIn K (.ref C) "__setattr__"=some (some (.builtin "object.__setattr__"))) (hp:PySem.W.plainOver K C=true) (ht:PySem.W.takerIn K C name=some none) (hh:PySem.W.hasDictIn K C=true)
 (hw:PySem.Within mA ns) (hsz:ns.length<=sizeLine)
 (h:∀ h',ObjM h' x dx C (λ y=>if y=name then some v else mA y)->Heap.SameBut dx s.heap h'->Q () { s with heap:=h',toks:=s.toks+2 }) :
 wpAny (model prog w) A (setAttr (.ref x) name v) Q E s:=by
 obtain ⟨od,J,hl⟩:=I.look
 refine PySem.W.set_plain X J hs (PySem.W.osa_open (s:={ s with toks:=s.toks+1 }) (r:=none) X J hp ht λ b=>?_)
 obtain ⟨cd,hc,hd'⟩:=PySem.W.any_some hh
 have hx:s.heap.get? x=some ⟨.ref C,some dx,.plain,#[]⟩:=I.obj
 refine wpAny_bind (wpAny_pure (wpAny_bind (wpAny_bind (wpAny_loadPart hx (wpAny_bind (PySem.W.Looks.here (s:={ s with toks:=s.toks+1 }) (PySem.W.looks_clsIn X hc) ?_))))))
 rw [hd']
 refine wpAny_pure (a:=some dx) (wpAny_bind (wpAny_pure (wpAny_bind ?_)))
 refine wpAny_nsSet1 (s:={ s with toks:=s.toks+1 }) I.ns λ h' hn2 hs2=>?_
 obtain ⟨oD,esD,epD,hoD,hdD,hcD⟩:=hn2.count (PySem.Within.cons name v hw)
 refine wpAny_bind (wpAny_lookBehind hoD (by rw [hdD]; exact pastItsLine_dict (Nat.le_trans hcD (by rw [List.length_cons]; omega))) ?_)
 exact wpAny_pure (h _ ⟨(hs2.2 _ (Ne.symm I.ne)).trans I.obj,hn2,I.ne⟩ hs2)
theorem Zyc {R:Result->Shared->Prop} {vs:List Value} {kw:List (Str×Value)} (X:K.In s.heap) (hm:PySem.W.makesIn K C=true)
 (hi:PySem.W.findIn K (.ref C) "__init__"=some (some (.ref f))) (hf:PySem.W.typeIn K (.ref f)=some (.type "function"))
 (h:codeAny (model prog w) (A.under (.builtin "type.__call__" ⟨.ref C::vs,kw⟩)) (.call (.ref f) ⟨.ref (s.heap.objs.size+1)::vs,kw⟩) (PySem.W.InitBack (s.heap.objs.size+1) R)
  { s with heap:=(s.heap.push PySem.W.emptyDict).push (PySem.W.instObj C s.heap.objs.size) }) :
 codeAny (model prog w) A (.call (.ref C) ⟨vs,kw⟩) R s:=by
 obtain ⟨hh,g,d,t,os⟩:=s
 exact PySem.W.make_core (PySem.W.makes_of X hm) (PySem.W.looks_findIn X hi) (λ self=>PySem.W.bind_fn X self hf) (.inl rfl) h
end
def putF (f:Str) (v:V):List (Str×V)->List (Str×V)
 | []=>[(f,v)]
 | (g,x)::r=>if g=f then (g,v)::r else (g,x)::putF f v r
theorem Zio (f g:Str) (v:V):∀ fs:List (Str×V),(putF f v fs).lookup g=if g=f then some v else fs.lookup g
 | []=>by
   show List.lookup g [(f,v)]=_
   by_cases h:g=f
   · have hb:(g == f)=true:=beq_iff_eq.mpr h
     simp only [List.lookup,hb,if_pos h]
   · have hb:(g == f)=false:=beq_eq_false_iff_ne.mpr h
     simp only [List.lookup,hb,if_neg h]
 | (k,x)::r=>by
   have ih:=Zio f g v r
   rw [show putF f v ((k,x)::r)=(if k=f then (k,v)::r else (k,x)::putF f v r) from rfl]
   by_cases hk:k=f
   · rw [if_pos hk]
     by_cases h:g=k
     · have hb:(g == k)=true:=beq_iff_eq.mpr h
       simp only [List.lookup,hb,if_pos (h.trans hk)]
     · have hb:(g == k)=false:=beq_eq_false_iff_ne.mpr h
       simp only [List.lookup,hb,if_neg (λ e:g=f=>h (e.trans hk.symm))]
   · rw [if_neg hk]
     by_cases h:g=k
     · have hb:(g == k)=true:=beq_iff_eq.mpr h
       simp only [List.lookup,hb,if_neg (λ e:g=f=>hk (h.symm.trans e))]
     · have hb:(g == k)=false:=beq_eq_false_iff_ne.mpr h
       simp only [List.lookup,hb]
       exact ih
theorem Zhn (f:Str) (v:V):∀ fs:List (Str×V),f∈(putF f v fs).map (·.1)/\∀ g,g∈fs.map (·.1)->g∈(putF f v fs).map (·.1)
 | []=>⟨by simp [putF],λ g h=>by simp at h⟩
 | (k,x)::r=>by
   obtain ⟨i1,i2⟩:=Zhn f v r
   rw [show putF f v ((k,x)::r)=(if k=f then (k,v)::r else (k,x)::putF f v r) from rfl]
   by_cases hk:k=f
   · rw [if_pos hk]
     subst hk
     exact ⟨by simp,λ g h=>by simpa using h⟩
   · rw [if_neg hk]
     refine ⟨?_,λ g h=>?_⟩
     · rw [List.map_cons]
       exact List.mem_cons_of_mem _ i1
     · rw [List.map_cons] at h ⊢
       rcases List.mem_cons.mp h with e | e
       · exact List.mem_cons.mpr (.inl e)
       · exact List.mem_cons_of_mem _ (i2 g e)
theorem Zip (f:Str) (v:V):∀ fs:List (Str×V),(putF f v fs).length<=fs.length+1
 | []=>by simp [putF]
 | (k,x)::r=>by
   have ih:=Zip f v r
   rw [show putF f v ((k,x)::r)=(if k=f then (k,v)::r else (k,x)::putF f v r) from rfl]
   by_cases hk:k=f
   · rw [if_pos hk,List.length_cons,List.length_cons]; omega
   · rw [if_neg hk,List.length_cons,List.length_cons]; omega
theorem RelO.some_of {v:V} {o:Option Value} (r:RelO (some v) o):∃ u,o=some u/\RelV v u:=by
 cases o with
 | none=>exact (show False from r).elim
 | some u=>exact ⟨u,rfl,r⟩
theorem RelO.none_of {o:Option Value} (r:RelO none o):o=none:=by
 cases o with
 | none=>rfl
 | some u=>exact (show False from r).elim
theorem Zwp {v:V} {u:Value} (r:RelV v u):PySem.W.handedIn u=true:=by
 cases v with
 | non=>cases (show u=Value.none from r); rfl
 | bl b=>cases (show u=Value.bool b from r); rfl
 | int i=>obtain ⟨t,e⟩:=(show ∃ t,u=Value.int i t from r); cases e; rfl
 | str x=>obtain ⟨t,e⟩:=(show ∃ t,u=Value.str x t from r); cases e; rfl
 | byt b=>obtain ⟨t,e⟩:=(show ∃ t,u=Value.bytes b t from r); cases e; rfl
 | flt b=>obtain ⟨t,e⟩:=(show ∃ t,u=Value.float b t from r); cases e; rfl
 | ref a=>cases (show u=Value.ref a from r); rfl
 | ty n=>cases (show u=Value.type n from r); rfl
section
variable {P:Program} {w:World} {H H':Hp} {h h':Heap} {a C dx:Addr} {fs fs':List (Str×V)}
theorem Zh6 (hok:HOk P w H h) (e:H a=some (.ins C dx fs)):∃ mA,ObjM h a dx C mA/\(∀ f,RelO (fs.lookup f) (mA f))/\PySem.Within mA (fs.map (·.1))/\fs.length<=1000/\H dx=some (.own a):=by
 obtain ⟨d,z,ne,ob,mA,n,r,q⟩:=(show ObjOk P w H h a (.ins C dx fs) from hok a _ e)
 exact ⟨mA,⟨ob,n,ne⟩,r,q,z,d⟩
end
structure Cls (K:Fq) (C:Addr):Prop where
 pg:PySem.W.plainGet K C Str.empty=true
 hd:PySem.W.hasDictIn K C=true
 po:PySem.W.plainOver K C=true
 sa:PySem.W.findIn K (.ref C) "__setattr__"=some (some (.builtin "object.__setattr__"))
theorem Cls.get {K:Fq} {C:Addr} (c:Cls K C) (f:Str):PySem.W.plainGet K C f=true:=c.pg
def NoAttr (K:Fq) (C:Addr) (f:Str):Prop:=PySem.W.findIn K (.ref C) f=some none
theorem NoAttr.taker {K:Fq} {C:Addr} {f:Str} (n:NoAttr K C f):PySem.W.takerIn K C f=some none:=by
 unfold PySem.W.takerIn
 rw [show PySem.W.findIn K (.ref C) f=some none from n]
 rfl
structure Meth (K:Fq) (C:Addr) (m:Str) (f:Addr):Prop where
 at_:PySem.W.findIn K (.ref C) m=some (some (.ref f))
 fn:PySem.W.isFn K (.ref f)=true
 kp:PySem.W.keepIn K (.ref f)=true
section
variable {X:Cx} {pins:List (Addr×Obj)} {σ:St} {H:Hp} {s:Shared} {a C dx:Addr} {fs:List (Str×V)} {f:Str} {v:V} {A:Around} {E:Value->Shared->Prop}
theorem Zug {b:Bool} {Q:Value->Shared->Prop} (I:Inv X pins σ H s) (e:H a=some (.ins C dx fs)) (c:Cls X.K C) (n:NoAttr X.K C f) (l:fs.lookup f=some v)
 (h:∀ u s',Inv X pins σ H s'->RelV v u->Q u s'):wpAny (model X.prog X.w) A (getAttr (.ref a) f b) Q E s:=by
 obtain ⟨mA,O,r,_,_,_⟩:=Zh6 I.hok e
 obtain ⟨u,hu,ru⟩:=RelO.some_of (v:=v) (o:=mA f) (by rw [← l]; exact r f)
 exact Z0t I.kIn O (c.get f) c.hd n hu (Zwp ru) (h u _ (I.tok _) ru)
theorem Za2 {m:Str} {g:Addr} {pl:Sem Bool} {Q:Value×List Value->Shared->Prop} (I:Inv X pins σ H s) (e:H a=some (.ins C dx fs)) (c:Cls X.K C) (k:Meth X.K C m g) (l:fs.lookup m=none)
 (h:Q (.ref g,[.ref a]) s):wpAny (model X.prog X.w) A (getMethod (.ref a) m pl) Q E s:=by
 obtain ⟨mA,O,r,_,_,_⟩:=Zh6 I.hok e
 have hn:mA m=none:=RelO.none_of (by rw [← l]; exact r m)
 exact Zyk I.kIn O (c.get m) k.at_ k.fn hn h
theorem Ztu {y:V} {u:Value} {Q:Unit->Shared->Prop} (I:Inv X pins σ H s) (e:H a=some (.ins C dx fs)) (c:Cls X.K C) (n:NoAttr X.K C f) (hl:fs.length<1000) (ry:RelV y u)
 (h:∀ s',Inv X pins σ (upd H a (.ins C dx (putF f y fs))) s'->Q () s'):wpAny (model X.prog X.w) A (setAttr (.ref a) f u) Q E s:=by
 obtain ⟨mA,O,r,wi,_,ho⟩:=Zh6 I.hok e
 have hz:(fs.map (·.1)).length<=sizeLine:=by rw [List.length_map,sizeLine_eq]; omega
 refine Zz1 I.kIn O c.sa c.po n.taker c.hd wi hz λ h' O' sb=>h _ ?_
 have hd:∃ o,h'.get? dx=some o:=let ⟨o,_,_,e',_⟩:=O'.ns; ⟨o,e'⟩
 refine I.write (x:=a) (e:=dx) (by rw [e]; exact True.intro) (.inr ho) (λ b q hb z=>(sb.2 b hb).trans z) hd ?_
 refine ⟨by rw [Z1 O.ne]; exact ho,?_,O.ne,O'.obj,_,O'.ns,λ g=>?_,λ g hg=>?_⟩
 · have:=Zip f y fs; omega
 · show RelO ((putF f y fs).lookup g) (if g=f then some u else mA g)
   rw [Zio]
   by_cases q:g=f
   · rw [if_pos q,if_pos q]; exact ry
   · rw [if_neg q,if_neg q]; exact r g
 · by_cases q:g=f
   · rw [q]; exact (Zhn f y fs).1
   · refine (Zhn f y fs).2 g (wi g λ z=>hg ?_)
     show (if g=f then some u else mA g)=none
     rw [if_neg q]; exact z
theorem Inv.made (I:Inv X pins σ H s):Inv X pins σ (upd (upd H s.heap.objs.size (.own (s.heap.objs.size+1))) (s.heap.objs.size+1) (.ins C s.heap.objs.size []))
 { s with heap:=(s.heap.push PySem.W.emptyDict).push (PySem.W.instObj C s.heap.objs.size) }:=by
 have e1:(s.heap.push PySem.W.emptyDict).get? s.heap.objs.size=some PySem.W.emptyDict:=Heap.get?_push_size s.heap rfl
 have e2:((s.heap.push PySem.W.emptyDict).push (PySem.W.instObj C s.heap.objs.size)).get? (s.heap.objs.size+1)=some (PySem.W.instObj C s.heap.objs.size):=by
  have:=Heap.get?_push_size (s.heap.push PySem.W.emptyDict) (o:=PySem.W.instObj C s.heap.objs.size) rfl
  rwa [Heap.size_push] at this
 have e3:(s.heap.push PySem.W.emptyDict).Ns s.heap.objs.size (λ _=>none):=⟨PySem.W.emptyDict,#[],_,e1,rfl,(λ e he=>absurd he (by simp)),λ _=>rfl⟩
 have I1:=I.laid (a:=s.heap.objs.size) (o:=.own (s.heap.objs.size+1)) (h':=s.heap.push PySem.W.emptyDict) (t':=s.toks) (λ b u q=>Heap.get?_push_of_some _ q) (Nat.le_refl _) ⟨_,e1⟩
 refine I1.laid (a:=s.heap.objs.size+1) (o:=.ins C s.heap.objs.size []) (t':=s.toks) (λ b u q=>Heap.get?_push_of_some _ q) (Nat.le_of_eq (Heap.size_push _ _)) ?_
 have ne:s.heap.objs.size≠s.heap.objs.size+1:=Nat.ne_of_lt (Nat.lt_succ_self _)
 refine ⟨by rw [Z1 ne,Zr],Nat.zero_le _,ne,e2,λ _=>none,(Heap.Ns1.of_empty e3).at λ o q=>Heap.get?_push_of_some _ q,λ _=>True.intro,λ y hy=>absurd rfl hy⟩
theorem Z1b {prog:Program} {w:World} {env:Env} {e:Expr} {f:Str} {pos:Pos} {s:Shared} {Q:Value->Shared->Prop} (hb:attributeBase e f env (eval e env)=eval e env)
 (h:wpAny (model prog w) A (eval e env) (λ o s₁=>wpAny (model prog w) A (getAttr o f true) Q E s₁) E s):wpAny (model prog w) A (eval (.Attribute e f pos) env) Q E s :=
 Attribute_any_ h (by rw [arm_eval_Attribute,hb])
end
def Kg (K:Fq) (ta:TE) (f:Str):TE:=λ σ H Q=>ta σ H λ x H1=>∃ a C dx fs v,x=.ref a/\H1 a=some (.ins C dx fs)/\Cls K C/\NoAttr K C f/\fs.lookup f=some v/\Q v H1
def sFld (K:Fq) (ta tv:TE) (f:Str):TS:=λ D σ H=>tv σ H λ y H1=>ta σ H1 λ x H2=>∃ a C dx fs,x=.ref a/\H2 a=some (.ins C dx fs)/\Cls K C/\NoAttr K C f/\fs.length<1000 /\
 D.nx σ (upd H2 a (.ins C dx (putF f y fs)))
section
variable {X:Cx} {o e value:Expr} {f:Str} {pos pos' tpos:Pos} {ta tv:TE}
theorem Ut (he:PE X e ta) (hb:attributeBase e f X.env (eval e X.env)=eval e X.env):PE X (.Attribute e f pos) (Kg X.K ta f):=by
 intro pins s σ H Q I h
 refine Z1b hb (thn (he pins s σ H _ I h) λ u s1 ⟨x,H1,I1,rx,a,C,dx,fs,v,ex,ea,c,n,l,q⟩=>?_)
 subst ex
 obtain rfl:u=Value.ref a:=rx
 exact Zug I1 ea c n l λ u' s2 I2 ru=>⟨v,H1,I2,ru,q⟩
theorem Zvq (ha:PE X o ta) (hv:PE X value tv) (hs:swapsWith value (some (.Attribute o f pos')) pos.line X.env=pure false):PS X (.Assign [.Attribute o f pos'] value pos) (sFld X.K ta tv f):=by
 intro pins s σ H D I h
 refine plainObj_wpAny_Assign_Attribute (thn (hv pins s σ H _ I h) λ u s1 ⟨y,H1,I1,ry,q⟩=>thn (ha pins s1 σ H1 _ I1 q) λ ov s2 ⟨x,H2,I2,rx,a,C,dx,fs,ex,ea,c,n,l,q2⟩=>?_) hs
 subst ex
 obtain rfl:ov=Value.ref a:=rx
 exact Ztu I2 ea c n l ry λ s3 I3=>⟨σ,_,I3,q2⟩
theorem Z23 {pl:Sem Bool} {m:Str} {apos:Pos} {args:List Expr} {pins:List (Addr×Obj)} {s:Shared} {σ:St} {H:Hp} {Q:Value->Shared->Prop} {te:TE} (he:PE X e te) (I:Inv X pins σ H s)
 (h:te σ H λ x H1=>∃ a C dx fs g,x=.ref a/\H1 a=some (.ins C dx fs)/\Cls X.K C/\Meth X.K C m g/\fs.lookup m=none /\
  ∀ s1,Inv X pins σ H1 s1->wpAny (model X.prog X.w) X.A (callWith pos (.ref g) [.ref a] (backTo pos (starEach args X.env)) (backToKw pos (keywordEach [] X.env))) Q X.xe s1)
 (ht:eval (.Call (.Attribute e m apos) args [] pos) X.env=(do
  let ov ← eval e X.env
  standAt apos.atName
  let (f,first) ← holding [ov] (getMethod ov m pl)
  callWith pos f first (backTo pos (starEach args X.env)) (backToKw pos (keywordEach [] X.env)))) :
 wpAny (model X.prog X.w) X.A (eval (.Call (.Attribute e m apos) args [] pos) X.env) Q X.xe s:=by
 refine PySem.W.methodCall_KW (pl:=pl) (thn (he pins s σ H _ I h) λ u s1 ⟨x,H1,I1,rx,a,C,dx,fs,g,ex,ea,c,k,l,q⟩=>?_) ht
 subst ex
 obtain rfl:u=Value.ref a:=rx
 exact Za2 I1 ea c k l (q s1 I1)
end
section
variable {X:Cx} {pins:List (Addr×Obj)} {σ:St} {H:Hp} {s:Shared} {A:Around} {E:Value->Shared->Prop} {Q:Value->Shared->Prop} {c:Value} {b:Bool}
inductive TyOf (K:Fq) (H:Hp):V->Value->Prop where
 | non:TyOf K H .non (.type "NoneType")
 | bl (x:Bool):TyOf K H (.bl x) (.type "bool")
 | int (i:Int):TyOf K H (.int i) (.type "int")
 | str (x:Str):TyOf K H (.str x) (.type "str")
 | flt (x:UInt64):TyOf K H (.flt x) (.type "float")
 | lst {a:Addr} {xs:List V} (e:H a=some (.lst xs)):TyOf K H (.ref a) (.type "list")
 | frz {a:Addr} {o:Obj} {xs:List V} (e:H a=some (.frz o (.lst xs))):TyOf K H (.ref a) (.type "list")
 | tup {a:Addr} {xs:List V} (e:H a=some (.tup xs)):TyOf K H (.ref a) (.type "tuple")
 | dK {a:Addr} {kvs:List (Key×V)} (e:H a=some (.dK kvs)):TyOf K H (.ref a) (.type "dict")
 | dT {a:Addr} {kvs:List (List Key×V)} (e:H a=some (.dT kvs)):TyOf K H (.ref a) (.type "dict")
 | ins {a C dx:Addr} {fs:List (Str×V)} (e:H a=some (.ins C dx fs)) (cl:Cls K C) (ha:PySem.W.findIn K (.ref C) "__class__"=some (some (.builtin "object.__class__")))
  (hn:PySem.W.specialIn K (.builtin "object.__class__") "__get__"=some (some (.builtin "getset_descriptor.__get__"))) (htk:PySem.W.takesIn K (.builtin "object.__class__")=some true)
  (hm:PySem.W.mroIn K C (.type "object")=some true):TyOf K H (.ref a) (.ref C)
theorem Zwi {x:V} {u t:Value} (I:Inv X pins σ H s) (rx:RelV x u) (ty:TyOf X.K H x t) (e:PySem.W.kitOne X.K t c=some b) (h:∀ tk,Q (.bool b) { s with toks:=tk }) :
 wpAny (model X.prog X.w) A (call (.builtin "isinstance") [u,c]) Q E s:=by
 cases ty with
 | non=>cases (show u=Value.none from rx); exact PySem.W.kia_one PySem.W.kitx_none I.kIn True.intro e (λ z=>nomatch z) h
 | bl y=>cases (show u=Value.bool y from rx); exact PySem.W.kia_one PySem.W.kitx_bool I.kIn True.intro e (λ z=>nomatch z) h
 | int i=>obtain ⟨t,q⟩:=(show ∃ t,u=Value.int i t from rx); cases q; exact PySem.W.kia_one PySem.W.kitx_int I.kIn True.intro e (λ z=>nomatch z) h
 | str y=>obtain ⟨t,q⟩:=(show ∃ t,u=Value.str y t from rx); cases q; exact PySem.W.kia_one PySem.W.kitx_str I.kIn True.intro e (λ z=>nomatch z) h
 | flt y=>obtain ⟨t,q⟩:=(show ∃ t,u=Value.float y t from rx); cases q; exact PySem.W.kia_one PySem.W.kitx_float I.kIn True.intro e (λ z=>nomatch z) h
 | @lst a xs ea =>
   cases (show u=Value.ref a from rx)
   obtain ⟨_,_,n,_,h1⟩:=(show ObjOk X.prog X.w H s.heap a (.lst xs) from I.hok a _ ea)
   exact PySem.W.kia_one PySem.W.kitx_list I.kIn ⟨_,h1,rfl⟩ e (λ z=>nomatch z) h
 | @frz a ob xs ea =>
   cases (show u=Value.ref a from rx)
   obtain ⟨_,_,_,n,_,h1⟩:=(show ObjOk X.prog X.w H s.heap a (.frz ob (.lst xs)) from I.hok a _ ea)
   exact PySem.W.kia_one PySem.W.kitx_list I.kIn ⟨_,h1,rfl⟩ e (λ z=>nomatch z) h
 | @tup a xs ea =>
   cases (show u=Value.ref a from rx)
   obtain ⟨_,_,_,p⟩:=(show ObjOk X.prog X.w H s.heap a (.tup xs) from I.hok a _ ea)
   obtain ⟨o,h1,h2,_⟩:=p
   exact PySem.W.kia_one PySem.W.kitx_tuple I.kIn ⟨o,h1,h2⟩ e (λ z=>nomatch z) h
 | @dK a kvs ea =>
   cases (show u=Value.ref a from rx)
   obtain ⟨_,_,vs,_,p⟩:=(show ObjOk X.prog X.w H s.heap a (.dK kvs) from I.hok a _ ea)
   obtain ⟨o,es,ep,h1,h2,_⟩:=p
   exact PySem.W.kia_one PySem.W.kitx_dict I.kIn ⟨o,h1,h2.1⟩ e (λ z=>nomatch z) h
 | @dT a kvs ea =>
   cases (show u=Value.ref a from rx)
   obtain ⟨_,_,xs,_,o,es,ep,h1,h2,_⟩:=(show ObjOk X.prog X.w H s.heap a (.dT kvs) from I.hok a _ ea)
   exact PySem.W.kia_one PySem.W.kitx_dict I.kIn ⟨o,h1,h2.1⟩ e (λ z=>nomatch z) h
 | @ins a C dx fs ea cl ha hn htk hm =>
   cases (show u=Value.ref a from rx)
   obtain ⟨mA,O,_⟩:=Zh6 I.hok ea
   obtain ⟨od,J,_⟩:=O.look
   exact PySem.W.kia_one (PySem.W.kitx_own (cl.get _) cl.hd ha hn htk hm) I.kIn J e (λ z=>nomatch z) h
end
end L2
namespace L2
open PySem PySem.Spec PyProof.Rows
structure Room (k:Nat) (A:Around):Prop where
 hd:A.handled=none
 dp:A.depth+3*k+5<recursionLimit
 un:A.units+16*k+200<cLine
theorem Room.mono {j k:Nat} {A:Around} (r:Room k A) (h:j<=k):Room j A:=⟨r.hd,by have:=r.dp; omega,by have:=r.un; omega⟩
theorem Room.deeper {k:Nat} {A:Around} (r:Room (k+1) A) (env:Env):Room k (A.deeper env) :=
 ⟨r.hd,by have:=r.dp; show A.depth+1+3*k+5<_; omega,by have:=r.un; show A.units+3+16*k+200<_; omega⟩
theorem Zud {A:Around} {C:Addr} {us:List Value} {kw:List (Str×Value)}:(A.under (.builtin "type.__call__" ⟨.ref C::us,kw⟩)).depth=A.depth+1:=by
 first | rfl | simp [Around.under,Code.weight,Code.isCreation,Code.isGuard,Code.isCaller,Code.frames,Code.isFrame,guardIds]
theorem Zuc {A:Around} {C:Addr} {us:List Value} {kw:List (Str×Value)}:(A.under (.builtin "type.__call__" ⟨.ref C::us,kw⟩)).units=A.units+1:=by
 first | rfl | simp [Around.under,Code.cUnits,Code.frames,Code.isFrame]
theorem Room.make {k:Nat} {A:Around} (r:Room (k+1) A) (C:Addr) (us:List Value) (kw:List (Str×Value)):Room k (A.under (.builtin "type.__call__" ⟨.ref C::us,kw⟩)) :=
 ⟨r.hd,by have:=r.dp; rw [Zud]; omega,by have:=r.un; rw [Zuc]; omega⟩
theorem Room.depth {k:Nat} {A:Around} (r:Room k A):A.depth<recursionLimit:=by have:=r.dp; omega
theorem Room.units {k:Nat} {A:Around} (r:Room k A):A.units+64<cLine:=by have:=r.un; omega
def Zg:TA:=λ _ H Q=>Q [] H
def Za (ta:TE) (tr:TA):TA:=λ σ H Q=>ta σ H λ x H1=>tr σ H1 λ xs H2=>Q (x::xs) H2
section
variable {X:Cx} {e:Expr} {es:List Expr} {te:TE} {t:TA} {pos:Pos}
theorem Z2a:PA X [] Zg:=λ _ _ _ _ H Q I h=>Calls.spliced_nil ⟨[],H,I,.nil,h⟩
theorem Z0g (ha:PE X e te) (hr:PA X es t) (hs:starEach (e::es) X.env=(false,eval e X.env)::starEach es X.env:=by rfl):PA X (e::es) (Za te t):=by
 intro pos pins s σ H Q I h
 rw [hs]
 show wpAny _ _ (spliced ((false,eval e X.env)::backTo pos (starEach es X.env))) _ _ s
 refine Calls.spliced_cons (thn (ha pins s σ H _ I h) λ u s1 ⟨x,H1,I1,r1,q1⟩=>?_)
 exact thn (hr pos pins s1 σ H1 _ I1 q1) λ us s2 ⟨xs,H2,I2,r2,q2⟩=>⟨x::xs,H2,I2,.cons r1 r2,q2⟩
def Vt (t:TA):TE:=λ σ H Q=>t σ H λ xs H1=>xs.length<=sizeLine/\∀ p,H1 p=none->Q (.ref p) (upd H1 p (.tup xs))
def Xi (t:TA):TE:=λ σ H Q=>t σ H λ xs H1=>xs.length<=sizeLine/\∀ p,H1 p=none->Q (.ref p) (upd H1 p (.lst xs))
theorem Z13 {x1} (h:PA X es t):PE X (.Tuple es x1 pos) (Vt t):=by
 intro pins s σ H Q I hq
 refine wpAny_Tuple_spliced (thn (h pos pins s σ H _ I hq) λ us s1 ⟨xs,H1,I1,r,z,q⟩=>⟨by rw [← r.length]; exact z,?_⟩)
 have hf:H1 s1.heap.objs.size=none:=I1.hok.fresh (Nat.le_refl _)
 refine ⟨.ref s1.heap.objs.size,upd H1 s1.heap.objs.size (.tup xs),I1.laid (t':=s1.toks) (λ b u e=>Heap.get?_push_of_some _ e) (Nat.le_refl _) ?_,rfl,q _ hf⟩
 exact ⟨z,us,r,⟨_,Heap.get?_push_size _ rfl,rfl,_,rfl⟩⟩
theorem Z14 (h:PA X es t):PE X (.List es pos) (Xi t):=by
 intro pins s σ H Q I hq
 refine wpAny_List_spliced (thn (h pos pins s σ H _ I hq) λ us s1 ⟨xs,H1,I1,r,z,q⟩=>⟨by rw [← r.length]; exact z,?_⟩)
 have hf:H1 s1.heap.objs.size=none:=I1.hok.fresh (Nat.le_refl _)
 refine ⟨.ref s1.heap.objs.size,upd H1 s1.heap.objs.size (.lst xs),I1.laid (t':=s1.toks) (λ b u e=>Heap.get?_push_of_some _ e) (Nat.le_refl _) ?_,rfl,q _ hf⟩
 exact ⟨z,us,0,r,Heap.get?_push_size _ rfl⟩
end
abbrev Sp:=List V->Hp->VK->XK->Prop
abbrev CXT:=List Env->Hp->Shared->XK->Value->Shared->Prop
structure Env0 (P:Program) (w:World) (K:Fq) (mg:Str->Option Value) (base:Heap) (A:Around) (outer:List Env) (s:Shared) (H:Hp):Prop where
 frames:A.frames=some outer
 mod:Mod K mg base
 bs:∀ b o,base.get? b=some o->s.heap.get? b=some o/\H b=none
 bsz:base.objs.size<=s.heap.objs.size
 funs:s.heap.FunFrames base outer
 frf:∀ b∈frs outer,H b=none
 hok:HOk P w H s.heap
 bare:AllBare s.gens
def CE (outer:List Env) (P:Program) (w:World) (H:Hp) (s:Shared) (Q:VK) (u:Value) (s':Shared):Prop :=
 ∃ v H',s'.os=s.os/\AllBare s'.gens/\Un (frs outer) [] H H' s.heap s'.heap/\HOk P w H' s'.heap/\RelV v u/\Q v H'
def CR (CX:CXT) (outer:List Env) (P:Program) (w:World) (H:Hp) (s:Shared) (Q:VK) (E:XK) (r:Result) (s':Shared):Prop :=
 match r with
 | .ok (.ret u)=>CE outer P w H s Q u s'
 | .ok _=>False
 | .error e=>CX outer H s E e s'
structure FnOk (P:Program) (w:World) (K:Fq) (mg:Str->Option Value) (base:Heap) (CX:CXT) (k:Nat) (f:Addr) (fd:FuncData) (ps:List Str) (sp:Sp):Prop where
 len:∀ vs H Q E,sp vs H Q E->vs.length=ps.length
 run:∀ (A:Around) (outer:List Env) (s:Shared) (H:Hp) (args:Args) (us:List Value) (vs:List V) (Q:VK) (E:XK),Room k A->Env0 P w K mg base A outer s H->BindsTo s fd args (ps.zip us)->Vals vs us->sp vs H Q E ->
  codeAny (model P w) A (.call (.ref f) args) (CR CX outer P w H s Q E) s
theorem FnOk.mono {P:Program} {w:World} {K:Fq} {mg:Str->Option Value} {base:Heap} {CX:CXT} {j k:Nat} {f:Addr} {fd:FuncData} {ps:List Str} {sp:Sp} (F:FnOk P w K mg base CX j f fd ps sp) (h:j<=k) :
 FnOk P w K mg base CX k f fd ps sp:=⟨F.len,λ A outer s H args us vs Q E hr=>F.run A outer s H args us vs Q E (hr.mono h)⟩
theorem Env0.make {P:Program} {w:World} {K:Fq} {mg:Str->Option Value} {base:Heap} {A:Around} {outer:List Env} {s:Shared} {H:Hp} (e:Env0 P w K mg base A outer s H) (C:Addr) (us:List Value) (kw:List (Str×Value)) :
 Env0 P w K mg base (A.under (.builtin "type.__call__" ⟨.ref C::us,kw⟩)) outer s H:=⟨by first | exact e.frames | (simpa [Around.under,Code.envs,Code.isFrame,pushEnvs] using e.frames),e.mod,e.bs,e.bsz,e.funs,e.frf,e.hok,e.bare⟩
section
variable {X:Cx} {pins:List (Addr×Obj)} {σ:St} {H:Hp} {s s':Shared}
theorem Inv.env0 (I:Inv X pins σ H s):Env0 X.prog X.w X.K X.mg X.base X.A X.stack s H :=
 ⟨I.ok.frames,I.ok.mod,I.bs,Nat.le_trans I.ok.bsz I.sz,I.stack,I.stkFree,I.hok,I.bare⟩
theorem Inv.after {Q:VK} {u:Value} (I:Inv X pins σ H s) (h:CE X.stack X.prog X.w H s Q u s'):EP X pins σ Q u s':=by
 obtain ⟨v,H',os,bare,un,hok,r,q⟩:=h
 obtain ⟨hh,g,d,t,os'⟩:=s'
 obtain rfl:os'=s.os:=os
 exact ⟨v,H',I.call (h':=hh) (g':=g) (d':=d) (t':=t) (ch:=[]) un hok bare (λ b z=>absurd z (by simp)),r,q⟩
end
def Z7 (sp:Sp) (dvs:List V) (E:XK) (t:TA):TE:=λ σ H Q=>t σ H λ vs H1=>sp (vs++dvs) H1 Q E
def Yw (C:Addr) (m:Str) (sp:Sp) (dvs:List V) (E:XK) (ta:TE) (t:TA):TE:=λ σ H Q=>ta σ H λ x H1=>∃ a dx fs,x=.ref a/\H1 a=some (.ins C dx fs)/\fs.lookup m=none /\
 t σ H1 λ vs H2=>sp (x::(vs++dvs)) H2 Q E
def Zfd (C:Addr) (sp:Sp) (dvs:List V) (E:XK) (t:TA):TE:=λ σ H Q=>t σ H λ vs H1=>∀ x dx,H1 x=none->H1 dx=none->dx≠x ->
 sp (.ref x::(vs++dvs)) (upd (upd H1 dx (.own x)) x (.ins C dx [])) (λ v H2=>v=.non/\Q (.ref x) H2) E
def Binds (K:Fq) (fd:FuncData) (ps:List Str) (ds:List Value):Prop :=
 ∀ (s:Shared) (us:List Value),K.In s.heap->(us++ds).length=ps.length->BindsTo s fd ⟨us,[]⟩ (ps.zip (us++ds))
theorem Binds.all {K:Fq} {fd:FuncData} {ps:List Str} (h:∀ us:List Value,us.length=ps.length->bindArgs fd ⟨us,[]⟩=pure (ps.zip us)):Binds K fd ps []:=λ s us _ hl=>by
 rw [List.append_nil] at hl ⊢
 exact .of_eq (h us hl)
def Passes (CX:CXT) (X:Cx) (E:XK):Prop:=∀ (pins:List (Addr×Obj)) (σ:St) (H:Hp) (s:Shared) (e:Value) (s':Shared),Inv X pins σ H s->CX X.stack H s E e s'->X.xe e s'
section
variable {X:Cx} {CX:CXT} {k:Nat} {f C:Addr} {fd:FuncData} {ps:List Str} {sp:Sp} {dvs:List V} {ds:List Value} {E:XK} {x m:Str} {p pos apos:Pos} {e o:Expr} {es:List Expr} {ta:TE} {t:TA}
theorem Zj7 {pins:List (Addr×Obj)} {σ:St} {H:Hp} {s:Shared} {Q:VK} {us:List Value} {vs:List V} (F:FnOk X.prog X.w X.K X.mg X.base CX k f fd ps sp) (hr:Room k X.A) (hb:Binds X.K fd ps ds) (hd:Vals dvs ds) (hx:Passes CX X E)
 (I:Inv X pins σ H s) (r:Vals vs us) (h:sp (vs++dvs) H Q E):wpAny (model X.prog X.w) X.A (call (.ref f) us) (EP X pins σ Q) X.xe s:=by
 have r2:Vals (vs++dvs) (us++ds):=r.append hd
 have hl:(us++ds).length=ps.length:=by rw [← r2.length]; exact F.len _ _ _ _ h
 refine wpAny_call (codeAny_mono (F.run X.A X.stack s H ⟨us,[]⟩ (us++ds) (vs++dvs) Q E hr I.env0 (hb s us I.kIn hl) r2 h) λ r s' hq=>?_)
 cases r with
 | error e=>exact hx pins σ H s e s' I hq
 | ok fl =>
   cases fl with
   | ret u=>exact I.after hq
   | next=>exact False.elim hq
   | brk=>exact False.elim hq
   | cont=>exact False.elim hq
theorem Z0e (F:FnOk X.prog X.w X.K X.mg X.base CX k f fd ps sp) (hr:Room k X.A) (hg:Gl X x) (hm:X.mg x=some (.ref f)) (hk:PySem.W.keepIn X.K (.ref f)=true) (hb:Binds X.K fd ps ds) (hd:Vals dvs ds) (hx:Passes CX X E)
 (ha:PA X (e::es) t) (hdb:(x == ("__debug__":Str))=false:=by decide) (he:starEach (e::es) X.env=(false,eval e X.env)::starEach es X.env:=by rfl) (hpl:(backTo pos (starEach es X.env)).any (·.1)=false:=by rfl) :
 PE X (.Call (.Name x p) (e::es) [] pos) (Z7 sp dvs E t):=by
 intro pins s σ H Q I h
 refine wpAny_Call_Name_kw (Jy I hg hm ?_ hdb)
 refine PySem.W.callWith_K (h₀:=X.base) I.ok.mod.kin hk (thn (ha pos pins s σ H _ I h) λ us s1 ⟨vs,H1,I1,r,q⟩=>⟨I1.kIn,?_⟩) he hpl
 exact Zj7 F hr hb hd hx I1 r q
theorem Z0a {pl:Sem Bool} (he:PE X o ta) (c:Cls X.K C) (hm:Meth X.K C m f) (F:FnOk X.prog X.w X.K X.mg X.base CX k f fd ps sp) (hr:Room k X.A) (hb:Binds X.K fd ps ds) (hd:Vals dvs ds) (hx:Passes CX X E) (ha:PA X (e::es) t)
 (hst:starEach (e::es) X.env=(false,eval e X.env)::starEach es X.env:=by rfl) (hpl:(backTo pos (starEach es X.env)).any (·.1)=false:=by rfl)
 (ht:eval (.Call (.Attribute o m apos) (e::es) [] pos) X.env=(do
  let ov ← eval o X.env
  standAt apos.atName
  let (f,first) ← holding [ov] (getMethod ov m pl)
  callWith pos f first (backTo pos (starEach (e::es) X.env)) (backToKw pos (keywordEach [] X.env))):=by rfl) :
 PE X (.Call (.Attribute o m apos) (e::es) [] pos) (Yw C m sp dvs E ta t):=by
 intro pins s σ H Q I h
 refine PySem.W.methodCall_KW (pl:=pl) (thn (he pins s σ H _ I h) λ u s1 ⟨x,H1,I1,rx,a,dx,fs,ex,ea,l,q⟩=>?_) ht
 subst ex
 obtain rfl:u=Value.ref a:=rx
 refine Za2 I1 ea c hm l ?_
 refine PySem.W.callWith_K (first:=[.ref a]) (h₀:=X.base) I.ok.mod.kin hm.kp (thn (ha pos pins s1 σ H1 _ I1 q) λ us s2 ⟨vs,H2,I2,r,q2⟩=>⟨I2.kIn,?_⟩) hst hpl
 exact Zj7 (us:=.ref a::us) (vs:=.ref a::vs) F hr hb hd hx I2 (.cons rfl r) q2
theorem Zqi {pl:Sem Bool} (he:PE X o ta) (c:Cls X.K C) (hm:Meth X.K C m f) (F:FnOk X.prog X.w X.K X.mg X.base CX k f fd ps sp) (hr:Room k X.A) (hb:Binds X.K fd ps ds) (hd:Vals dvs ds) (hx:Passes CX X E)
 (ht:eval (.Call (.Attribute o m apos) [] [] pos) X.env=(do
  let ov ← eval o X.env
  standAt apos.atName
  let (f,first) ← holding [ov] (getMethod ov m pl)
  callWith pos f first (backTo pos (starEach [] X.env)) (backToKw pos (keywordEach [] X.env))):=by rfl) :
 PE X (.Call (.Attribute o m apos) [] [] pos) (Yw C m sp dvs E ta Zg):=by
 intro pins s σ H Q I h
 refine PySem.W.methodCall_KW (pl:=pl) (thn (he pins s σ H _ I h) λ u s1 ⟨x,H1,I1,rx,a,dx,fs,ex,ea,l,q⟩=>?_) ht
 subst ex
 obtain rfl:u=Value.ref a:=rx
 refine Za2 I1 ea c hm l ?_
 exact PySem.W.callWith_K0 (first:=[.ref a]) I1.kIn hm.kp (Zj7 (us:=[.ref a]) (vs:=[.ref a]) F hr hb hd hx I1 (.cons rfl .nil) q)
structure Mk (K:Fq) (C f:Addr):Prop where
 makes:PySem.W.makesIn K C=true
 init:PySem.W.findIn K (.ref C) "__init__"=some (some (.ref f))
 fn:PySem.W.isFn K (.ref f)=true
 kp:PySem.W.keepIn K (.ref C)=true
theorem Zxy {pins:List (Addr×Obj)} {σ:St} {H:Hp} {s:Shared} {Q:VK} {us:List Value} {vs:List V} (M:Mk X.K C f) (F:FnOk X.prog X.w X.K X.mg X.base CX k f fd ps sp) (hr:Room (k+1) X.A) (hb:Binds X.K fd ps ds) (hd:Vals dvs ds)
 (hx:Passes CX X E) (I:Inv X pins σ H s) (r:Vals vs us)
 (h:∀ x dx,H x=none->H dx=none->dx≠x->sp (.ref x::(vs++dvs)) (upd (upd H dx (.own x)) x (.ins C dx [])) (λ v H2=>v=.non/\Q (.ref x) H2) E) :
 wpAny (model X.prog X.w) X.A (call (.ref C) us) (EP X pins σ Q) X.xe s:=by
 have hq:=h (s.heap.objs.size+1) s.heap.objs.size (I.hok.fresh (Nat.le_succ _)) (I.hok.fresh (Nat.le_refl _)) (Nat.ne_of_lt (Nat.lt_succ_self _))
 have I2:=Inv.made (C:=C) I
 have r2:Vals (V.ref (s.heap.objs.size+1)::(vs++dvs)) (Value.ref (s.heap.objs.size+1)::(us++ds)):=.cons rfl (r.append hd)
 have hl:(Value.ref (s.heap.objs.size+1)::us++ds).length=ps.length:=by
  have e:=r2.length
  rw [F.len _ _ _ _ hq] at e
  exact e.symm
 refine wpAny_call (Zyc (f:=f) I.kIn M.makes M.init (beq_iff_eq.mp M.fn) (codeAny_mono (F.run _ X.stack _ _ ⟨Value.ref (s.heap.objs.size+1)::us,[]⟩ (Value.ref (s.heap.objs.size+1)::(us++ds)) _ _ E (hr.make C us [])
  (I2.env0.make C us []) (hb _ (Value.ref (s.heap.objs.size+1)::us) I2.kIn hl) r2 hq) λ r s' hq'=>?_))
 cases r with
 | error e=>exact hx pins σ _ _ e s' I2 hq'
 | ok fl =>
   cases fl with
   | ret u =>
     obtain ⟨v,H',I3,rv,ev,q3⟩:=I2.after hq'
     subst ev
     exact ⟨rv,⟨V.ref (s.heap.objs.size+1),H',I3,rfl,q3⟩⟩
   | next=>exact False.elim hq'
   | brk=>exact False.elim hq'
   | cont=>exact False.elim hq'
theorem Zx5 (M:Mk X.K C f) (F:FnOk X.prog X.w X.K X.mg X.base CX k f fd ps sp) (hr:Room (k+1) X.A) (hg:Gl X x) (hm:X.mg x=some (.ref C)) (hb:Binds X.K fd ps ds) (hd:Vals dvs ds) (hx:Passes CX X E)
 (hdb:(x == ("__debug__":Str))=false:=by decide):PE X (.Call (.Name x p) [] [] pos) (Zfd C sp dvs E Zg):=by
 intro pins s σ H Q I h
 refine wpAny_Call_Name_kw (Jy I hg hm ?_ hdb)
 exact PySem.W.callWith_K0 I.kIn M.kp (Zxy (us:=[]) M F hr hb hd hx I .nil h)
end
section
variable {X:Cx} {CX:CXT} {k:Nat} {f C:Addr} {fd:FuncData} {ps ks:List Str} {sp:Sp} {E:XK} {x m:Str} {p pos apos kpos:Pos} {e o:Expr} {es:List Expr} {kws:List Keyword} {te ta:TE} {t tk:TA} {nm:Option Str}
variable {g:List Value->List Value->List Value} {gV:List V->List V->List V}
end
structure FnScope (N P:List Str) (sc:Scope):Prop where
 kind:sc.kind=.function
 co:sc.isCoroutine=false
 gen:sc.isGenerator=false
 nd:N.Nodup
 pre:N.take P.length=P
 par:∀ x∈P,sc.names.lookup x=some .local\/sc.names.lookup x=some .cell
 nofree:∀ y∈sc.names,y.2≠.free
theorem Zno {kindOf:Str->Option NameKind} {x:Str}:∀ {binds:List (Str×Value)} {m:Str->Option Value},(∀ v,(x,v) ∉ binds)->bindL kindOf binds m x=m x
 | [],_,_=>rfl
 | (n,v)::r,m,h=>by
   unfold bindL
   rw [Zno λ w hw=>h w (List.mem_cons_of_mem _ hw)]
   split
   · have:x≠n:=by rintro rfl; exact h v List.mem_cons_self
     simp [this]
   · rfl
theorem Znq {kindOf:Str->Option NameKind} {x:Str}:∀ {binds:List (Str×Value)} {m:Str->Option Value},(∀ v,(x,v) ∉ binds)->bindC kindOf binds m x=m x
 | [],_,_=>rfl
 | (n,v)::r,m,h=>by
   unfold bindC
   rw [Znq λ w hw=>h w (List.mem_cons_of_mem _ hw)]
   split
   · rfl
   · have:x≠n:=by rintro rfl; exact h v List.mem_cons_self
     simp [this]
theorem Znp {kindOf:Str->Option NameKind} {x:Str} {v:Value}:∀ {P:List Str} {vs:List Value} {i:Nat} {m:Str->Option Value},P.Nodup->P[i]?=some x->vs[i]?=some v->kindOf x=some .local ->
 bindL kindOf (P.zip vs) m x=some v
 | [],_,_,_,_,h,_,_=>by simp at h
 | _::_,[],_,_,_,_,h,_=>by simp at h
 | p::P,w::vs,0,m,nd,h1,h2,hk=>by
   simp at h1 h2; subst h1; subst h2
   show bindL kindOf ((p,w)::P.zip vs) m p=_
   unfold bindL
   rw [Zno λ v hv=>(List.nodup_cons.mp nd).1 (List.of_mem_zip hv).1,if_pos hk]
   simp
 | p::P,w::vs,i+1,m,nd,h1,h2,hk=>by
   show bindL kindOf ((p,w)::P.zip vs) m x=_
   unfold bindL
   exact Znp (i:=i) (List.nodup_cons.mp nd).2 (by simpa using h1) (by simpa using h2) hk
theorem Znr {kindOf:Str->Option NameKind} {x:Str} {v:Value}:∀ {P:List Str} {vs:List Value} {i:Nat} {m:Str->Option Value},P.Nodup->P[i]?=some x->vs[i]?=some v->kindOf x≠some .local ->
 bindC kindOf (P.zip vs) m x=some v
 | [],_,_,_,_,h,_,_=>by simp at h
 | _::_,[],_,_,_,_,h,_=>by simp at h
 | p::P,w::vs,0,m,nd,h1,h2,hk=>by
   simp at h1 h2; subst h1; subst h2
   show bindC kindOf ((p,w)::P.zip vs) m p=_
   unfold bindC
   rw [Znq λ v hv=>(List.nodup_cons.mp nd).1 (List.of_mem_zip hv).1,if_neg hk]
   simp
 | p::P,w::vs,i+1,m,nd,h1,h2,hk=>by
   show bindC kindOf ((p,w)::P.zip vs) m x=_
   unfold bindC
   exact Znr (i:=i) (List.nodup_cons.mp nd).2 (by simpa using h1) (by simpa using h2) hk
def start (N:List Str) (vs:List V):St:=vs.map some++List.replicate (N.length-vs.length) none
def cxOf (CX:CXT) (P:Program) (w:World) (K:Fq) (mg:Str->Option Value) (base:Heap) (N:List Str) (qual:Str) (scope:Scope) (f:Addr) (cd:Value) (A:Around) (outer:List Env) (s:Shared) (H:Hp) (E:XK):Cx where
 prog:=P
 w:=w
 K:=K
 mg:=mg
 base:=base
 A:=A.deeper (envOfC qual scope s.heap.objs.size f cd)
 N:=N
 s₀:=s
 H₀:=H
 env:=envOfC qual scope s.heap.objs.size f cd
 outer:=outer
 stack:=envOfC qual scope s.heap.objs.size f cd::outer
 ex:=[]
 calm:=true
 fn:=λ _=>true
 pn:=[]
 xe:=λ e s'=>wpAny (model P w) (A.deeper (envOfC qual scope s.heap.objs.size f cd)) (leaving (envOfC qual scope s.heap.objs.size f cd) e) (λ _ s''=>CX outer H s E e s'') (λ e' s''=>CX outer H s E e' s'') s'
theorem Zrk {sc:Scope} {n:Nat} {x:Str} (h:sc.names.lookup x=some .cell):∃ c,(cellsFrom n sc.names []).lookup x=some c:=by
 have q:=PySem.W.cellsFrom_some sc.names n [] (.inl h)
 exact Option.isSome_iff_exists.mp q
theorem Zwl {CX:CXT} {P:Program} {w:World} {K:Fq} {mg:Str->Option Value} {base:Heap} {N ps:List Str} {qual:Str} {scope:Scope} {f:Addr} {cd:Value} {A:Around} {outer:List Env} {s s1:Shared} {H:Hp} {E:XK} {us:List Value} {vs:List V}
 (S:FnScope N ps scope) (hd:A.handled=none) (e0:Env0 P w K mg base A outer s H) (hl:vs.length=ps.length) (r:Vals vs us)
 (x:InCallC s s.heap.objs.size (bindL (envOfC qual scope s.heap.objs.size f cd).kindOf (ps.zip us) λ _=>none) (cellsFrom (s.heap.objs.size+1) scope.names []) (bindC (envOfC qual scope s.heap.objs.size f cd).kindOf (ps.zip us) λ _=>none) s1) :
 Inv (cxOf CX P w K mg base N qual scope f cd A outer s H E) [] (start N vs) H s1:=by
 have hpl:ps.length<=N.length:=by have:=congrArg List.length S.pre; rw [List.length_take] at this; omega
 obtain ⟨h1,tk,rfl,hk⟩:=x.done
 have noA:∀ b:Addr,b ∉ (cxOf CX P w K mg base N qual scope f cd A outer s H E).ex:=λ b z=>absurd (show b∈([]:List Addr) from z) (by simp)
 refine ⟨⟨e0.mod,S.kind,rfl,rfl,Nat.le_refl _,λ y z c h1 h2=>?_,λ y hy=>?_,λ y c _ h=>?_,λ _=>hd,Around.frames_deeper e0.frames,.inr ⟨rfl,rfl⟩,λ b z=>absurd z (noA b),e0.bs,e0.bsz,λ b _ _=>noA b,λ b z=>absurd z (noA b),e0.funs,e0.frf⟩,
  rfl,e0.bare,Un.kept hk,⟨_,x.toInCall.ns,λ i y v h1 h2 h3=>?_⟩,λ y c h=>⟨_,x.cell y c h⟩,e0.hok.fresh (Nat.le_refl _),λ y c h=>?_,λ p hp=>absurd (show p∈([]:List (Addr×Obj)) from hp) (by simp),e0.hok.kept hk,?_⟩
 · exact name_of_addr x.apart (PySem.mem_of_lookup h1) (PySem.mem_of_lookup h2)
 · have hy:scope.names.lookup y=some .cell\/scope.names.lookup y=some .free:=hy
   rcases hy with hy | hy
   · exact Zrk hy
   · exact absurd rfl (S.nofree _ (PySem.mem_of_lookup hy))
 · exact Nat.le_of_lt (x.above y c (PySem.mem_of_lookup h))
 · have hi:i<vs.length:=by
    unfold start at h2
    by_cases hi:i<vs.length
    · exact hi
    · rw [List.getElem?_append_right (by simpa using hi)] at h2
      rw [List.getElem?_replicate] at h2
      split at h2 <;> cases h2
   have ha:vs[i]?=some v:=by
    unfold start at h2
    rw [List.getElem?_append_left (by simpa using hi),List.getElem?_map] at h2
    cases e:vs[i]? with
    | none=>rw [e] at h2; cases h2
    | some a=>rw [e] at h2; cases h2; rfl
   obtain ⟨u,hu,rv⟩:=r.get ha
   have hp:ps[i]?=some y:=by
    rw [← S.pre,List.getElem?_take_of_lt (by omega)]; exact h1
   have ndP:ps.Nodup:=by rw [← S.pre]; exact S.nd.sublist (List.take_sublist _ _)
   refine ⟨u,rv,?_⟩
   rcases S.par y (List.mem_of_getElem? hp) with k | k
   · exact .inl ⟨k,Znp ndP hp hu k⟩
   · obtain ⟨c,e⟩:=Zrk (n:=s.heap.objs.size+1) k
     refine .inr ⟨.inl k,c,e,?_⟩
     have q:=x.cell y c e
     rw [Znr ndP hp hu (by show scope.names.lookup y≠_; rw [k]; decide)] at q
     exact q
 · exact e0.hok.fresh (Nat.le_of_lt (x.above y c (PySem.mem_of_lookup h)))
 · unfold start
   show _=N.length
   rw [List.length_append,List.length_map,List.length_replicate]
   omega
theorem Zuj {CX:CXT} {P:Program} {w:World} {K:Fq} {mg:Str->Option Value} {base:Heap} {k:Nat} {f:Addr} {name qual:Str} {params:Arguments} {body:List Stmt} {scope:Scope} {dV kV doc pm cdv ct oc:Value} {an od:Option Addr}
 {osl:Array (Option Value)} {N ps:List Str} {sp:Sp} (lk:K.lookup f=some ⟨oc,od,.func (PySem.W.fnOf name qual params body scope dV kV doc pm an cdv ct),osl⟩) (hcd:PySem.W.codeIn K cdv qual=true) (S:FnScope N ps scope)
 (len:∀ vs H Q E,sp vs H Q E->vs.length=ps.length)
 (hbody:∀ (A:Around) (outer:List Env) (s:Shared) (H:Hp) (vs:List V) (Q:VK) (E:XK),Room k (A.deeper (envOfC qual scope s.heap.objs.size f cdv))->sp vs H Q E ->
  ∃ t,PSs (cxOf CX P w K mg base N qual scope f cdv A outer s H E) body t/\t { nx:=λ _ H'=>Q .non H',rt:=Q } (start N vs) H) :
 FnOk P w K mg base CX (k+1) f (PySem.W.fnOf name qual params body scope dV kV doc pm an cdv ct) ps sp:=by
 refine ⟨len,λ A outer s H args us vs Q E hr e0 hb r hsp=>?_⟩
 have hl:=len _ _ _ _ hsp
 have KX:K.In s.heap:=e0.mod.kin.keeps λ b o e=>(e0.bs b o e).1
 have lim:s.heap.NoLimit:=e0.mod.nolimit.keeps λ b o e=>(e0.bs b o e).1
 have hkind:∀ y∈ps.zip us,scope.names.lookup y.1=some .local\/(scope.names.lookup y.1=some .cell/\((cellsFrom (s.heap.objs.size+1) scope.names []).lookup y.1).isSome=true):=λ ⟨n,v⟩ hy=>by
  rcases S.par n (List.of_mem_zip hy).1 with q | q
  · exact .inl q
  · exact .inr ⟨q,PySem.W.cellsFrom_some _ _ _ (.inl q)⟩
 refine codeAny_call_function hr.depth (KX _ _ lk) rfl S.co S.gen rfl (PySem.W.codeRec_of KX hcd) (hb _ _ _ _ ?_)
 refine wpAny_newFunctionEnv_cells S.kind hkind λ env he s1 x=>?_
 subst he
 refine ⟨lim.keeps x.toInCall.keep,codeAny_func ?_⟩
 obtain ⟨t,ht,hq⟩:=hbody A outer s H vs Q E (hr.deeper _) hsp
 have I:Inv (cxOf CX P w K mg base N qual scope f cdv A outer s H E) [] (start N vs) H s1:=Zwl S hr.hd e0 hl r x
 refine wpAny_mono (ht [] s1 (start N vs) H _ I hq) (λ fl s' hs=>?_) λ e s' hs=>hs
 have fin:∀ {σ':St} {H':Hp} {v:V} {u:Value},Inv (cxOf CX P w K mg base N qual scope f cdv A outer s H E) [] σ' H' s'->RelV v u->Q v H'->CE outer P w H s Q u s' :=
  λ {σ' H' v u} J rv q=>⟨v,H',J.os,J.bare,J.base,J.hok,rv,q⟩
 cases fl with
 | ret u =>
   obtain ⟨v,σ',H',J,rv,q⟩:=hs
   exact fin J rv q
 | next =>
   obtain ⟨σ',H',J,q⟩:=hs
   exact fin (v:=V.non) (u:=Value.none) J rfl q
 | brk =>
   obtain ⟨_,_,_,q⟩:=hs
   exact False.elim q
 | cont =>
   obtain ⟨_,_,_,q⟩:=hs
   exact False.elim q
end L2
namespace L2
open PySem PySem.Spec PyProof.Rows
section
variable {X:Cx} {x:Str} {p pos:Pos} {e:Expr} {es:List Expr} {t:TA} {id T:String} {r:List V->Hp->VK->Prop}
def tCB (r:List V->Hp->VK->Prop) (t:TA):TE:=λ σ H Q=>t σ H λ vs H1=>r vs H1 Q
theorem Zx8 (hc:CallR X (.builtin id) r) (hg:Gl X x) (hm:X.mg x=none) (hv:bootBuiltins x=some (.builtin id)) (ha:PA X (e::es) t) (hn:x≠"__name__":=by decide) (hdb:(x == ("__debug__":Str))=false:=by decide)
 (he:starEach (e::es) X.env=(false,eval e X.env)::starEach es X.env:=by rfl) (hpl:(backTo pos (starEach es X.env)).any (·.1)=false:=by rfl):PE X (.Call (.Name x p) (e::es) [] pos) (tCB r t):=by
 intro pins s σ H Q I h
 refine wpAny_Call_Name_kw (Zet I hg hm hv ?_ hn hdb)
 exact PyProof.Rows.callWith_builtin1 (thn (ha pos pins s σ H _ I h) λ us s1 ⟨vs,H1,I1,r1,q1⟩=>hc pins s1 σ H1 vs us Q I1 r1 q1) he hpl
theorem Zvv (hc:CallR X (.type T) r) (hg:Gl X x) (hm:X.mg x=none) (hv:bootBuiltins x=some (.type T)) (ha:PA X (e::es) t) (hn:x≠"__name__":=by decide) (hdb:(x == ("__debug__":Str))=false:=by decide)
 (he:starEach (e::es) X.env=(false,eval e X.env)::starEach es X.env:=by rfl) (hpl:(backTo pos (starEach es X.env)).any (·.1)=false:=by rfl):PE X (.Call (.Name x p) (e::es) [] pos) (tCB r t):=by
 intro pins s σ H Q I h
 refine wpAny_Call_Name_kw (Zet I hg hm hv ?_ hn hdb)
 exact PyProof.Rows.callWith_type1 (thn (ha pos pins s σ H _ I h) λ us s1 ⟨vs,H1,I1,r1,q1⟩=>hc pins s1 σ H1 vs us Q I1 r1 q1) he hpl
end
end L2
namespace HT
open PySem PyProof.Rows
section
open PySem.SeqAt
open PySem.AutoSeq1 (wpAny_loadPart')
open PySem.MeetsSeq PySem.MeetsSeq2 PySem.MeetsSeq3
end
section
variable {prog:Program} {w:World} {A:Around} {E:Value->Shared->Prop} {s:Shared}
theorem Z06 {t b:Addr} {vs ws:List Value} {Q:Value->Shared->Prop} (ht:IsTup s.heap t vs.toArray) (hb:IsTup s.heap b ws.toArray) (hv:vs≠[])
 (h1:ws=[]->Q (.ref t) s) (h2:ws≠[]->Q (.ref s.heap.objs.size) { s with heap:=s.heap.push { cls:=.type "tuple",data:=.seq (vs++ws).toArray } })
 (hsz:vs.length+ws.length<=sizeLine):wpAny (model prog w) A (binaryOp .Add (.ref t) (.ref b)) Q E s:=by
 obtain ⟨⟨cls,dd,data,sl⟩,ho,hc,n,hd⟩:=id ht
 obtain ⟨⟨cls2,dd2,data2,sl2⟩,ho2,hc2,n2,hd2⟩:=id hb
 simp only at hc hd hc2 hd2
 subst hc hd hc2 hd2
 have e:vs.toArray++ws.toArray=(vs++ws).toArray:=by simp
 by_cases hw:ws=[]
 · exact concat_meets ⟨_,ho,rfl⟩ ⟨_,ho2,rfl⟩ noFill_tuple_add seq_tuple_add PySem.F.slot_tuple_add PySem.F.entry_tuple_add (PySem.F.args_tuple_add_2 _ _)
    (tuple_addW1 t b vs.toArray ws.toArray n n2 dd dd2 sl sl2 (by simpa using hv) (by simp [hw])) ⟨ho,ho2,h1 hw⟩
 · refine concat_meets ⟨_,ho,rfl⟩ ⟨_,ho2,rfl⟩ noFill_tuple_add seq_tuple_add PySem.F.slot_tuple_add PySem.F.entry_tuple_add (PySem.F.args_tuple_add_2 _ _)
    (tuple_addW2 t b vs.toArray ws.toArray n n2 dd dd2 sl sl2 (by simpa using hv) (by simpa using hw) (by rw [List.size_toArray,List.size_toArray]; exact hsz)) ⟨ho,ho2,?_⟩
   rw [e]
   exact h2 hw
def sIx (n d:Nat):Option Int->Nat
 | none=>d
 | some v=>if v<0 then (v+(n:Int)).toNat else min v.toNat n
theorem Zsp (n d k:Nat):sIx n d (some (k:Int))=min k n:=by
 show (if (k:Int)<0 then ((k:Int)+(n:Int)).toNat else min (k:Int).toNat n)=min k n
 rw [if_neg (by omega),Int.toNat_natCast]
theorem Z1z (n d:Nat) (hd:d<=n) (o:Option Int):sIx n d o<=n:=by
 cases o with
 | none=>exact hd
 | some v =>
   show (if v<0 then (v+(n:Int)).toNat else min v.toNat n)<=n
   by_cases hv:v<0
   · rw [if_pos hv]; omega
   · rw [if_neg hv]; exact Nat.min_le_right _ _
theorem Zs9 (v:Int) (n d:Nat):(if v<0 then max (v+(n:Int)) 0 else min v (n:Int))=((sIx n d (some v):Nat):Int):=by
 show (if v<0 then max (v+(n:Int)) 0 else min v (n:Int))=(((if v<0 then (v+(n:Int)).toNat else min v.toNat n):Nat):Int)
 by_cases hv:v<0
 · simp only [if_pos hv]; omega
 · simp only [if_neg hv]; omega
theorem Zuu (lo hi:Option Int) (n:Nat):Builtin.Slice.sliceAdjust lo hi 1 (n:Int)=(((sIx n 0 lo:Nat):Int),((sIx n n hi:Nat):Int)):=by
 have h1:¬ ((1:Int)<0):=by omega
 unfold Builtin.Slice.sliceAdjust
 simp only [h1,if_false]
 refine Prod.ext ?_ ?_
 · cases lo with
   | none=>rfl
   | some v=>exact Zs9 v n 0
 · cases hi with
   | none=>rfl
   | some v=>exact Zs9 v n n
theorem Zt4 (i j:Nat):Builtin.Slice.slicePlaces (i:Int) (j:Int) 1=j-i:=by
 unfold Builtin.Slice.slicePlaces
 have h1:(1:Int) > 0:=by omega
 simp only [h1,if_true,Int.ediv_one]
 split <;> omega
theorem Zjy {v:Value} {o:Option Int} {Q:Option Int->Shared->Prop} (p:IsPart v o) (h:Q o s):wpAny (model prog w) A (Builtin.Slice.slicePartIndex v) Q E s:=by
 cases p with
 | none=>exact slicePart_none h
 | int i t=>exact slicePart_int h
theorem Ziz {sl:Addr} {vl vu:Value} {lo hi:Option Int} {n:Nat} {Q:Int×Int×Nat->Shared->Prop} (hs:s.heap.IsSliceOf sl vl vu .none) (pl:IsPart vl lo) (pu:IsPart vu hi)
 (h:Q (((sIx n 0 lo:Nat):Int),1,sIx n n hi-sIx n 0 lo) s):wpAny (model prog w) A (Builtin.Slice.sliceApplied (.ref sl) (pure (n:Int))) Q E s:=by
 obtain ⟨os,hos,hcs,hds⟩:=id hs
 unfold Builtin.Slice.sliceApplied Builtin.Slice.sliceFields
 refine wpAny_bind (wpAny_bind (wpAny_field hos hds (x:=vl) rfl (wpAny_bind (wpAny_field hos hds (x:=vu) rfl (wpAny_bind (wpAny_field hos hds (x:=.none) rfl (wpAny_pure ?_)))))))
 refine wpAny_bind (slicePart_none ?_)
 show wpAny _ _ (if ((1:Int) == 0)=true then _ else _) _ _ s
 rw [if_neg (by decide)]
 refine wpAny_bind (Zjy pl (wpAny_bind (Zjy pu (wpAny_bind (wpAny_pure ?_)))))
 show wpAny _ _ (match Builtin.Slice.sliceAdjust lo hi 1 (n:Int) with | (lo,hi)=>pure (lo,(1:Int),Builtin.Slice.slicePlaces lo hi 1)) _ _ s
 rw [Zuu lo hi n]
 show wpAny _ _ (pure (((sIx n 0 lo:Nat):Int),(1:Int),Builtin.Slice.slicePlaces ((sIx n 0 lo:Nat):Int) ((sIx n n hi:Nat):Int) 1)) _ _ s
 rw [Zt4]
 exact wpAny_pure h
theorem Zx3 (xs:Array Value) (i k:Nat):((List.range k).filterMap λ (m:Nat)=>xs[((i:Int)+(m:Int)*1).toNat]?).toArray=((xs.toList.drop i).take k).toArray:=by
 have e:(λ (m:Nat)=>xs[((i:Int)+(m:Int)*1).toNat]?)=λ m=>xs[i+m]?:=by
  funext m
  have:((i:Int)+(m:Int)*1).toNat=i+m:=by omega
  rw [this]
 rw [e]
 have:=pick_run xs i k
 rw [List.filterMap_map] at this
 have e2:((λ x=>xs[x]?) ∘ λ x=>i+x)=λ m=>xs[i+m]?:=rfl
 rw [e2] at this
 rw [this]
theorem Zie {t sl:Addr} {items:Array Value} {vl vu:Value} {lo hi:Option Int} {Q:Value->Shared->Prop} (ht:IsTup s.heap t items) (hs:s.heap.IsSliceOf sl vl vu .none) (pl:IsPart vl lo) (pu:IsPart vu hi)
 (hw:¬ (sIx items.size 0 lo=0/\sIx items.size items.size hi=items.size))
 (h:Q (.ref s.heap.objs.size) { s with heap:=s.heap.push { cls:=.type "tuple",data:=.seq ((items.toList.drop (sIx items.size 0 lo)).take (sIx items.size items.size hi-sIx items.size 0 lo)).toArray } })
 (hsz:items.size<=sizeLine):wpAny (model prog w) A (getItem (.ref t) (.ref sl)) Q E s:=by
 have htake:sizeOk (.seq ((items.toList.drop (sIx items.size 0 lo)).take (sIx items.size items.size hi-sIx items.size 0 lo)).toArray):=by
  show ((items.toList.drop (sIx items.size 0 lo)).take (sIx items.size items.size hi-sIx items.size 0 lo)).toArray.size<=sizeLine
  rw [List.size_toArray,List.length_take,List.length_drop,Array.length_toList]
  omega
 have hj:sIx items.size items.size hi<=items.size:=Z1z _ _ (Nat.le_refl _) hi
 obtain ⟨os,hos,hcs,hds⟩:=id hs
 have hTs:s.TypeIs (.ref sl) "slice":=⟨os,hos,hcs⟩
 unfold getItem
 try with_reducible refine wpAny_holding ?_
 first | refine wpAny_bind (wpAny_pure ?_) | skip
 refine wpAny_bind (wpAny_sequenceKey ht.typeIs (by decide) ?_)
 refine wpAny_bind (wpAny_callSpecial?_slot (name:=Str.ofString "__getitem__") ht.typeIs PyProof.Rows.slot_tuple_getitem
  (wpAny_call_entry PyProof.Rows.slot_tuple_getitem ht.typeIs entry_tuple_getitem ?_ (args_tuple_getitem _ _)))
 show wpAny _ _ (Builtin.Tuple.tupleItemsOf (.ref t) >>= _) _ _ s
 refine wpAny_bind (tupleItemsOf_ ht ?_)
 refine wpAny_bind (wpAny_typeOf hTs ?_)
 rw [if_pos (by decide)]
 refine wpAny_bind (Ziz hs pl pu ?_)
 have hno:¬ ((((sIx items.size 0 lo:Nat):Int) == 0 && (1:Int) == 1 && (sIx items.size items.size hi-sIx items.size 0 lo) == items.size)=true):=by
  intro q
  rw [Bool.and_eq_true,Bool.and_eq_true] at q
  have q1:((sIx items.size 0 lo:Nat):Int)=0:=eq_of_beq q.1.1
  have q2:sIx items.size items.size hi-sIx items.size 0 lo=items.size:=eq_of_beq q.2
  exact hw ⟨by omega,by omega⟩
 show wpAny _ _ (if (((sIx items.size 0 lo:Nat):Int) == 0 && (1:Int) == 1 && (sIx items.size items.size hi-sIx items.size 0 lo) == items.size)=true then _ else _) _ _ s
 rw [if_neg hno,Zx3]
 first
  | exact wpAny_bind (m:=Builtin.Tuple.tupleExact _) (wpAny_newObj_type (wpAny_pure ⟨_,rfl,wpAny_pure h⟩) htake)
  | exact wpAny_bind (m:=Builtin.Tuple.tupleExact _) (wpAny_newObj_type (wpAny_bind (wpAny_pure (wpAny_pure ⟨_,rfl,wpAny_pure h⟩))) htake)
  | exact wpAny_bind (wpAny_bind (m:=Builtin.Tuple.tupleExact _) (wpAny_newObj_type (wpAny_pure (wpAny_pure ⟨_,rfl,wpAny_pure h⟩)) htake))
  | exact wpAny_bind (wpAny_bind (m:=Builtin.Tuple.tupleExact _) (wpAny_newObj_type (wpAny_pure ⟨_,rfl,wpAny_pure h⟩) htake))
end
end HT
namespace L2
open PySem PySem.Spec PyProof.Rows
abbrev TO:=St->Hp->(Option Int->Hp->Prop)->Prop
def PO (X:Cx) (e:Option Expr) (t:TO):Prop :=
 ∀ (pins:List (Addr×Obj)) (s:Shared) (σ:St) (H:Hp) (Q:Option Int->Hp->Prop),Inv X pins σ H s->t σ H Q ->
   wpAny (model X.prog X.w) X.A (evalPart e X.env) (λ u s'=>∃ o H',Inv X pins σ H' s'/\IsPart u o/\Q o H') X.xe s
def Zh1:TO:=λ _ H Q=>Q none H
def Zot (t:TE):TO:=λ σ H Q=>t σ H λ x H1=>∃ i,x=.int i/\Q (some i) H1
section
variable {X:Cx} {e:Expr} {te:TE} {lo hi:Option Expr} {tl th:TO} {pos p2:Pos}
theorem Zst:PO X none Zh1:=by
 intro pins s σ H Q I h
 rw [evalPart_none]
 exact wpAny_pure ⟨none,H,I,.none,h⟩
theorem Zss (h:PE X e te):PO X (some e) (Zot te):=by
 intro pins s σ H Q I hw
 rw [evalPart_some]
 refine thn (h pins s σ H _ I hw) λ u s1 ⟨x,H1,I1,r1,q1⟩=>?_
 obtain ⟨i,rfl,q⟩:=q1
 obtain ⟨t,rfl⟩:=r1
 exact ⟨some i,H1,I1,.int i t,q⟩
def SlR (X:Cx) (r:V->Option Int->Option Int->Hp->VK->Prop):Prop :=
 ∀ (pins:List (Addr×Obj)) (s:Shared) (σ:St) (H:Hp) (x:V) (v vl vu:Value) (lo hi:Option Int) (sl:Addr) (Q:VK),Inv X pins σ H s->RelV x v->s.heap.IsSliceOf sl vl vu .none->IsPart vl lo->IsPart vu hi->r x lo hi H Q ->
   ∃ T id,typeLookup (.type T) "__getitem__"=pure (some (.builtin id))/\s.TypeIs v T/\wpAny (model X.prog X.w) X.A (getItem v (.ref sl)) (EP X pins σ Q) X.xe s
theorem SlR.or {r r':V->Option Int->Option Int->Hp->VK->Prop} (h:SlR X r) (h':SlR X r'):SlR X (λ x lo hi H Q=>r x lo hi H Q\/r' x lo hi H Q):=by
 intro pins s σ H x v vl vu lo hi sl Q I rx hs pl pu q
 rcases q with q | q
 · exact h pins s σ H x v vl vu lo hi sl Q I rx hs pl pu q
 · exact h' pins s σ H x v vl vu lo hi sl Q I rx hs pl pu q
def tSl (r:V->Option Int->Option Int->Hp->VK->Prop) (te:TE) (tl th:TO):TE:=λ σ H Q=>te σ H λ x H1=>tl σ H1 λ l H2=>th σ H2 λ u H3=>r x l u H3 Q
theorem Zqh {r:V->Option Int->Option Int->Hp->VK->Prop} (hr:SlR X r) (he:PE X e te) (hl:PO X lo tl) (hu:PO X hi th):PE X (.Subscript e (.Slice lo hi none p2) pos) (tSl r te tl th):=by
 intro pins s σ H Q I h
 refine Subscript_ (thn (he pins s σ H _ I h) λ v s1 ⟨x,H1,I1,r1,q1⟩=>?_)
 refine wpAny_Slice (thn (hl pins s1 σ H1 _ I1 q1) λ vl s2 ⟨l,H2,I2,pl,q2⟩=>thn (hu pins s2 σ H2 _ I2 q2) λ vu s3 ⟨u,H3,I3,pu,q3⟩=>?_)
 rw [evalPart_none]
 refine wpAny_pure ?_
 have I4:Inv X pins σ H3 { s3 with heap:=s3.heap.push { cls:=.type "slice",data:=.fields #[vl,vu,.none] } }:=I3.kept (t':=s3.toks) λ b ob q=>Heap.get?_push_of_some _ q
 obtain ⟨T,id,hT,ht,hg⟩:=hr pins { s3 with heap:=s3.heap.push { cls:=.type "slice",data:=.fields #[vl,vu,.none] } } σ H3 x v vl vu l u s3.heap.objs.size Q I4 r1 (Heap.IsSliceOf.new ..) pl pu q3
 show wpAny (model X.prog X.w) X.A (subscriptTail e (.Slice lo hi none p2) v (.ref s3.heap.objs.size)) (EP X pins σ Q) X.xe { s3 with heap:=s3.heap.push { cls:=.type "slice",data:=.fields #[vl,vu,.none] } }
 exact tail_any (ops:=[.ref s3.heap.objs.size,v]) ht hT hg (by with_unfolding_all rfl)
def cutV (xs:List V) (lo hi:Option Int):List V:=(xs.drop (HT.sIx xs.length 0 lo)).take (HT.sIx xs.length xs.length hi-HT.sIx xs.length 0 lo)
theorem Ziq (xs:List V) (lo hi:Option Int):(cutV xs lo hi).length<=xs.length:=by
 unfold cutV
 rw [List.length_take,List.length_drop]
 omega
def rSlT (K:Fq):V->Option Int->Option Int->Hp->VK->Prop:=λ x lo hi H Q=>∃ a xs,x=.ref a/\SqT K H a xs /\
 ¬ (HT.sIx xs.length 0 lo=0/\HT.sIx xs.length xs.length hi=xs.length)/\∀ p,H p=none->Q (.ref p) (upd H p (.tup (cutV xs lo hi)))
theorem Z1x:SlR X (rSlT X.K):=by
 intro pins s σ H x v vl vu lo hi sl Q I rx hs pl pu h
 obtain ⟨a,xs,rfl,hx,hw,q⟩:=h
 cases rx
 obtain ⟨its,r,ht,hz⟩:=I.tuple hx
 have hlen:its.toArray.size=xs.length:=by rw [List.size_toArray]; exact r.length.symm
 refine ⟨"tuple",_,PyProof.Rows.slot_tuple_getitem.lookup,ht.typeIs,?_⟩
 refine HT.Zie ht hs pl pu (by rw [hlen]; exact hw) ?_ (by rw [hlen]; exact hz)
 rw [hlen]
 refine ⟨.ref s.heap.objs.size,_,I.laid (t':=s.toks) (o:=.tup (cutV xs lo hi)) (λ b ob q=>Heap.get?_push_of_some _ q) (Nat.le_refl _) ?_,rfl,q _ (I.hok.fresh (Nat.le_refl _))⟩
 exact ⟨Nat.le_trans (Ziq xs lo hi) hz,_,(r.drop (HT.sIx xs.length 0 lo)).take (HT.sIx xs.length xs.length hi-HT.sIx xs.length 0 lo),IsTup.new _ _⟩
def Zy5 (K:Fq):R2:=λ x y H Q=>∃ a b xs ys,x=.ref a/\y=.ref b/\SqT K H a xs/\SqT K H b ys/\xs≠[]/\xs.length+ys.length<=sizeLine /\
 (ys=[]->Q (.ref a) H)/\(ys≠[]->∀ p,H p=none->Q (.ref p) (upd H p (.tup (xs++ys))))
theorem Vals.nil_iff {xs:List V} {us:List Value} (r:Vals xs us):us=[]↔xs=[]:=by
 cases r with
 | nil=>simp
 | cons _ _=>simp
theorem Z0j:OpR X (binaryOp .Add) (Zy5 X.K):=by
 intro pins s σ H x y v u Q I rx ry h
 obtain ⟨a,b,xs,ys,rfl,rfl,ha,hb,hx,hz,q1,q2⟩:=h
 cases rx
 cases ry
 obtain ⟨its,r1,p1,_⟩:=I.tuple ha
 obtain ⟨its2,r2,p2,_⟩:=I.tuple hb
 refine HT.Z06 p1 p2 (λ z=>hx (r1.nil_iff.mp z)) (λ z=>⟨.ref a,H,I,rfl,q1 (r2.nil_iff.mp z)⟩) (λ z=>?_) (by rw [← r1.length,← r2.length]; exact hz)
 refine ⟨.ref s.heap.objs.size,_,I.laid (t':=s.toks) (o:=.tup (xs++ys)) (λ b ob q=>Heap.get?_push_of_some _ q) (Nat.le_refl _) ?_,rfl,q2 (λ w=>z (r2.nil_iff.mpr w)) _ (I.hok.fresh (Nat.le_refl _))⟩
 exact ⟨by rw [List.length_append]; exact hz,_,r1.append r2,IsTup.new _ _⟩
end
end L2
namespace L2
open PySem PySem.Spec PyProof.Rows
def ixN (n:Nat) (i:Int):Option Nat:=if 0<=i then (if i<n then some i.toNat else none) else if -(n:Int)<=i then some (i+n).toNat else none
def atI {α:Type} (xs:List α) (i:Int):Option α:=(ixN xs.length i).bind λ j=>xs[j]?
theorem Zs0 {n:Nat} {i:Int} {j:Nat} (h:ixN n i=some j):seqIndex? i n=some j/\j<n/\-(n:Int)<=i/\i<n:=by
 unfold ixN at h
 by_cases h0:0<=i
 · rw [if_pos h0] at h
   by_cases h1:i<n
   · rw [if_pos h1] at h
     have e:i.toNat=j:=Option.some.inj h
     exact ⟨by rw [seqIndex_of h0 h1,e],by omega,by omega,h1⟩
   · rw [if_neg h1] at h; cases h
 · rw [if_neg h0] at h
   by_cases h1:-(n:Int)<=i
   · rw [if_pos h1] at h
     have e:(i+n).toNat=j:=Option.some.inj h
     exact ⟨by rw [seqIndex_neg (by omega) h1,e],by omega,h1,by omega⟩
   · rw [if_neg h1] at h; cases h
theorem Zm4 {α:Type} {xs:List α} {i:Int} {v:α} (h:atI xs i=some v):∃ j,seqIndex? i xs.length=some j/\xs[j]?=some v/\j<xs.length/\-(xs.length:Int)<=i/\i<xs.length:=by
 unfold atI at h
 cases e:ixN xs.length i with
 | none=>rw [e] at h; cases h
 | some j =>
   rw [e] at h
   obtain ⟨h1,h2,h3,h4⟩:=Zs0 e
   exact ⟨j,h1,h,h2,h3,h4⟩
theorem Vh {α:Type} {xs:List α} {j:Nat} {v:α} (h:xs[j]?=some v):atI xs (j:Int)=some v:=by
 have hj:j<xs.length:=(List.getElem?_eq_some_iff.mp h).1
 have e:ixN xs.length (j:Int)=some j:=by
  unfold ixN
  rw [if_pos (by omega),if_pos (by omega)]; simp
 unfold atI; rw [e]; exact h
theorem Zjl {α:Type} (xs:List α) (v:α):atI (xs++[v]) (-1)=some v:=by
 have hl:(xs++[v]).length=xs.length+1:=by simp
 have e:ixN (xs++[v]).length (-1)=some xs.length:=by
  unfold ixN
  rw [hl,if_neg (by decide),if_pos (by omega)]
  congr 1
  omega
 unfold atI
 rw [e]
 show (xs++[v])[xs.length]?=some v
 simp
def PlainIx (b:Expr):Prop:=∀ o i,subscripted b false o i=operate [o,i] (getItem o i)
def IxR (X:Cx) (r:R2):Prop :=
 ∀ (value slice:Expr) (pins:List (Addr×Obj)) (s:Shared) (σ:St) (H:Hp) (x y:V) (v u:Value) (Q:VK),Inv X pins σ H s->RelV x v->RelV y u->r x y H Q ->
   subscripted slice false v u=operate [v,u] (getItem v u)->wpAny (model X.prog X.w) X.A (subscriptTail value slice v u) (EP X pins σ Q) X.xe s
def MtR (X:Cx) (id:String) (r:V->List V->Hp->VK->Prop):Prop :=
 ∀ (pins:List (Addr×Obj)) (s:Shared) (σ:St) (H:Hp) (x:V) (xs:List V) (v:Value) (us:List Value) (Q:VK),Inv X pins σ H s->RelV x v->Vals xs us->r x xs H Q ->
   wpAny (model X.prog X.w) X.A (call (.builtin id) (v::us)) (EP X pins σ Q) X.xe s
section
variable {X:Cx} {a b:Expr} {ta tb:TE} {pos:Pos}
theorem IxR.or {r r':R2} (h:IxR X r) (h':IxR X r'):IxR X (λ x y H Q=>r x y H Q\/r' x y H Q):=by
 intro value slice pins s σ H x y v u Q I rx ry q hs
 rcases q with q | q
 · exact h value slice pins s σ H x y v u Q I rx ry q hs
 · exact h' value slice pins s σ H x y v u Q I rx ry q hs
theorem Z3 {r:R2} (hr:IxR X r) (ha:PE X a ta) (hb:PE X b tb) (hs:PlainIx b):PE X (.Subscript a b pos) (tOp r ta tb):=by
 intro pins s σ H Q I h
 exact Subscript_ (binT ha hb I h λ v u s2 x y H2 I2 rx ry q=>hr a b pins s2 σ H2 x y v u Q I2 rx ry q (hs _ _))
def rIxL (K:Fq):R2:=λ x y H Q=>∃ p xs i v,x=.ref p/\y=.int i/\SqL K H p xs/\atI xs i=some v/\Q v H
def rIxT (K:Fq):R2:=λ x y H Q=>∃ p xs i v,x=.ref p/\y=.int i/\SqT K H p xs/\atI xs i=some v/\Q v H
def rIxS:R2:=λ x y H Q=>∃ z i c,x=.str z/\y=.int i/\z.length<=sizeLine/\atI z.cps.toList i=some c/\Q (.str ⟨#[c]⟩) H
theorem Z0s:IxR X (rIxL X.K):=by
 intro value slice pins s σ H x y v u Q I rx ry h hs
 obtain ⟨p,xs,i,z,rfl,rfl,hq,he,q⟩:=h
 cases rx
 obtain ⟨t,rfl⟩:=ry
 obtain ⟨its,r,pl,hz⟩:=I.list hq
 obtain ⟨j,h1,h2,h3,h4,h5⟩:=Zm4 he
 obtain ⟨w,ew,rw'⟩:=r.get h2
 have hl:=r.length
 have hn:=Zes
 have fin:EP X pins σ Q w s:=⟨z,H,I,rw',q⟩
 by_cases h0:0<=i
 · have hj:i.toNat=j:=by
    rw [seqIndex_of h0 h5] at h1
    exact Option.some.inj h1
   exact item_listR pl.isList h0 (by omega) (by rw [hj]; simpa using ew) fin hs
 · have hj:(i+(its.toArray.size:Int)).toNat=j:=by
    rw [seqIndex_neg (by omega) h4] at h1
    rw [List.size_toArray,← hl]
    exact Option.some.inj h1
   exact subscriptTail_builtinR (x:=w) pl.isList.typeIs slot_list_getitem.lookup
    (wpAny_getItem_list_neg (Q:=λ r s'=>r=w/\EP X pins σ Q r s') pl.isList (by omega) (by rw [List.size_toArray] <;> omega) (by omega) (by rw [hj]; simpa using ew) ⟨rfl,fin⟩) hs
theorem Z2o:IxR X (rIxT X.K):=by
 intro value slice pins s σ H x y v u Q I rx ry h hs
 obtain ⟨p,xs,i,z,rfl,rfl,hq,he,q⟩:=h
 cases rx
 obtain ⟨t,rfl⟩:=ry
 obtain ⟨its,r,pl,hz⟩:=I.tuple hq
 obtain ⟨j,h1,h2,h3,h4,h5⟩:=Zm4 he
 obtain ⟨w,ew,rw'⟩:=r.get h2
 have hl:=r.length
 have hn:=Zes
 have fin:EP X pins σ Q w s:=⟨z,H,I,rw',q⟩
 exact subscriptTail_builtinR (x:=w) pl.typeIs slot_tuple_getitem.lookup
  (getItem_tuple (j:=j) (Q:=λ r s'=>r=w/\EP X pins σ Q r s') pl (by omega) (by omega) (by rw [List.size_toArray,← hl]; exact h1) (by simpa using ew) ⟨rfl,fin⟩) hs
theorem Z2p:IxR X rIxS:=by
 intro value slice pins s σ H x y v u Q I rx ry h hs
 obtain ⟨z,i,c,rfl,rfl,hz,he,q⟩:=h
 obtain ⟨t,rfl⟩:=rx
 obtain ⟨t',rfl⟩:=ry
 obtain ⟨j,h1,h2,h3,h4,h5⟩:=Zm4 he
 have hl:z.cps.toList.length=z.length:=by simp [Str.length]
 rw [hl] at h1 h4 h5
 have hn:=Zes
 exact tail_any (typeIs_str s z t) slot_str_getitem.lookup (getItem_str (c:=c) (by
  have e1:decide (i < -(2 ^ 63:Int))=false:=decide_eq_false (by omega)
  have e2:decide (i ≥ 2 ^ 63)=false:=decide_eq_false (by omega)
  rw [e1,e2,Bool.or_false]) (by rw [h1]; simpa using h2) ⟨.str ⟨#[c]⟩,H,I.tok _,⟨_,rfl⟩,q⟩) hs
def rIx (K:Fq):R2:=λ x y H Q=>rIxL K x y H Q\/rIxT K x y H Q\/rIxS x y H Q
theorem Zy:IxR X (rIx X.K):=Z0s.or (Z2o.or Z2p)
theorem Zub (its:List Value) (n j:Nat) (u:Value):Obj.mapSeq (·.setIfInBounds j u) { cls:=.type "list",data:=.seq its.toArray n }={ cls:=.type "list",data:=.seq (its.set j u).toArray n }:=by
 simp [Obj.mapSeq]
theorem Inv.lst {pins:List (Addr×Obj)} {σ:St} {H:Hp} {s:Shared} {p:Addr} {xs:List V} (I:Inv X pins σ H s) (h:H p=some (.lst xs)) :
 ∃ (its:List Value) (n:Nat),Vals xs its/\s.heap.get? p=some { cls:=.type "list",data:=.seq its.toArray n }/\xs.length<=sizeLine:=by
 obtain ⟨z,its,n,r,e⟩:=I.hok p _ h
 exact ⟨its,n,r,e,z⟩
theorem Inv.lstUpd {pins:List (Addr×Obj)} {σ:St} {H:Hp} {s:Shared} {p:Addr} {xs ys:List V} {its its':List Value} {n n':Nat} {f:Obj->Obj} (I:Inv X pins σ H s) (h:H p=some (.lst xs))
 (ho:s.heap.get? p=some { cls:=.type "list",data:=.seq its.toArray n }) (hf:f { cls:=.type "list",data:=.seq its.toArray n }={ cls:=.type "list",data:=.seq its'.toArray n' }) (r:Vals ys its') (hz:ys.length<=sizeLine) (t:Nat) :
 Inv X pins σ (upd H p (.lst ys)) { s with heap:=s.heap.update p f,toks:=t }:=by
 have e:(s.heap.update p f).get? p=some { cls:=.type "list",data:=.seq its'.toArray n' }:=by
  rw [Heap.get?_update_self f ho (by rw [hf] <;> rfl),hf]
 refine I.write (x:=p) (e:=p) (by rw [h]; trivial) (.inl rfl) (λ b u hb q=>(Heap.get?_update_other _ _ (Ne.symm hb)).trans q) ⟨_,e⟩ ?_
 exact ⟨hz,its',n',r,e⟩
def Zfp:V->V->V->Hp->(Hp->Prop)->Prop:=λ o i v H Q=>∃ p xs k j,o=.ref p/\i=.int k/\H p=some (.lst xs)/\ixN xs.length k=some j/\Q (upd H p (.lst (xs.set j v)))
theorem Zfh:PSet X Zfp:=by
 intro pins s σ H o i v ov iv u Q I ro ri rv h
 obtain ⟨p,xs,k,j,rfl,rfl,hp,hj,q⟩:=h
 cases ro
 obtain ⟨t,rfl⟩:=ri
 obtain ⟨its,n,r,ho,hz⟩:=I.lst hp
 obtain ⟨h1,h2,h3,h4⟩:=Zs0 hj
 have hl:=r.length
 have hn:=Zes
 have I':Inv X pins σ (upd H p (.lst (xs.set j v))) { s with heap:=s.heap.update p (Obj.mapSeq (·.setIfInBounds j u)) } :=
  I.lstUpd hp ho (Zub its n j u) (r.set rv j) (by rw [List.length_set]; exact hz) s.toks
 by_cases h0:0<=k
 · have hk:k.toNat=j:=by
    rw [seqIndex_of h0 h4] at h1
    exact Option.some.inj h1
   exact PySem.W.ki_setAt ho h0 (by omega) (by rw [List.size_toArray,← hl]; exact h4) (by rw [hk]; exact ⟨_,I',q⟩)
 · have hk:(k+(its.toArray.size:Int)).toNat=j:=by
    rw [seqIndex_neg (by omega) h3] at h1
    rw [List.size_toArray,← hl]
    exact Option.some.inj h1
   exact PySem.W.ki_setBack ho (by omega) (by rw [List.size_toArray,← hl]; exact h3) (by omega) (by rw [hk]; exact ⟨_,I',q⟩)
theorem Zpn (lo hi:Option Int) (n:Nat):(sliceBounds lo hi none n).1=((HT.sIx n 0 lo:Nat):Int)/\(sliceBounds lo hi none n).2.1=((HT.sIx n n hi:Nat):Int)/\(sliceBounds lo hi none n).2.2=1:=by
 refine ⟨?_,?_,rfl⟩
 · cases lo with
   | none=>simp [sliceBounds,HT.sIx]
   | some i =>
     simp only [sliceBounds,HT.sIx,Option.getD_none,show (1:Int) > 0 by decide,if_true]
     by_cases h:i<0
     · simp only [h,if_true] <;> omega
     · simp only [h,if_false] <;> omega
 · cases hi with
   | none=>simp [sliceBounds,HT.sIx]
   | some i =>
     simp only [sliceBounds,HT.sIx,Option.getD_none,show (1:Int) > 0 by decide,if_true]
     by_cases h:i<0
     · simp only [h,if_true] <;> omega
     · simp only [h,if_false] <;> omega
theorem Zns (its:List Value) (lo hi:Option Int):slicePick its.toArray lo hi none=((its.drop (HT.sIx its.length 0 lo)).take (HT.sIx its.length its.length hi-HT.sIx its.length 0 lo)).toArray:=by
 obtain ⟨h1,h2,h3⟩:=Zpn lo hi its.toArray.size
 unfold slicePick
 rw [h1,h2,h3]
 simp only [sliceRange_one,pick_run,List.size_toArray] <;> rfl
def rSlL (K:Fq):V->Option Int->Option Int->Hp->VK->Prop:=λ x lo hi H Q=>∃ a xs,x=.ref a/\SqL K H a xs/\∀ p,H p=none->Q (.ref p) (upd H p (.lst (cutV xs lo hi)))
theorem Zz0:SlR X (rSlL X.K):=by
 intro pins s σ H x v vl vu lo hi sl Q I rx hs pl pu h
 obtain ⟨a,xs,rfl,hx,q⟩:=h
 cases rx
 obtain ⟨its,r,ht,hz⟩:=I.list hx
 have hlen:=r.length
 refine ⟨"list",_,slot_list_getitem.lookup,ht.isList.typeIs,?_⟩
 refine wpAny_getItem_list_slice ht.isList hs pl pu .none (by simp) ?_ (by rw [List.size_toArray] <;> omega)
 rw [Zns,← hlen]
 refine ⟨.ref s.heap.objs.size,_,I.laid (t':=s.toks) (o:=.lst (cutV xs lo hi)) (λ b ob q=>Heap.get?_push_of_some _ q) (Nat.le_refl _) ?_,rfl,q _ (I.hok.fresh (Nat.le_refl _))⟩
 exact ⟨Nat.le_trans (Ziq xs lo hi) hz,_,0,(r.drop (HT.sIx xs.length 0 lo)).take (HT.sIx xs.length xs.length hi-HT.sIx xs.length 0 lo),Heap.get?_push_size _ rfl⟩
theorem Zop:CallR X (.type "tuple") (λ xs H Q=>∃ p ys,xs=[.ref p]/\((SqL X.K H p ys/\∀ l,H l=none->Q (.ref l) (upd H l (.tup ys)))\/(SqT X.K H p ys/\Q (.ref p) H))):=by
 intro pins s σ H xs us Q I r h
 obtain ⟨p,ys,rfl,h⟩:=h
 obtain ⟨u,rfl,rx⟩:=U4 r
 cases rx
 rcases h with ⟨hq,q⟩ | ⟨hq,q⟩
 · obtain ⟨its,r',pl,hz⟩:=I.list hq
   have hlen:=r'.length
   refine call_tuple_list pl.isList (λ h' kp=>?_) (by simp only [List.size_toArray] <;> omega)
   have I1:Inv X pins σ H { s with heap:=h' }:=I.kept (t':=s.toks) kp
   have I2:Inv X pins σ (upd H h'.objs.size (.tup ys)) { s with heap:=h'.push { cls:=.type "tuple",data:=.seq its.toArray } } :=
    I1.laid (t':=s.toks) (λ b o e=>Heap.get?_push_of_some _ e) (Nat.le_refl _) (show ObjOk X.prog X.w _ _ _ (.tup ys) from ⟨hz,its,r',IsTup.new _ _⟩)
   exact ⟨.ref h'.objs.size,_,I2,rfl,q _ (I1.hok.fresh (Nat.le_refl _))⟩
 · obtain ⟨its,r',pl,hz⟩:=I.tuple hq
   exact call_tuple_same pl ⟨.ref p,H,I,rfl,q⟩
def tyV (K:Fq) (T:String) (x:V) (H:Hp):Prop:=match x with
 | .str _=>T="str"
 | .int _=>T="int"
 | .ref p=>(T="list"/\∃ xs,SqL K H p xs)\/(T="tuple"/\∃ o,K.lookup p=some o/\o.cls=.type "tuple"/\o.dict=none) \/
  (T="dict"/\((∃ kvs,H p=some (.dK kvs))\/∃ kvs,H p=some (.dT kvs)))\/(T="set"/\∃ S n,H p=some (.set S n))
 | _=>False
theorem Z1r {pins:List (Addr×Obj)} {σ:St} {H:Hp} {s:Shared} {T:String} {x:V} {v:Value} (I:Inv X pins σ H s) (r:RelV x v) (ty:tyV X.K T x H) :
 s.TypeIs v T/\∀ a,v=.ref a->∃ ob,s.heap.get? a=some ob/\ob.dict=none:=by
 cases x with
 | str z =>
   obtain ⟨t,rfl⟩:=r
   cases (show T="str" from ty)
   exact ⟨typeIs_str s z t,λ _ e=>nomatch e⟩
 | int i =>
   obtain ⟨t,rfl⟩:=r
   cases (show T="int" from ty)
   exact ⟨typeIs_int s i t,λ _ e=>nomatch e⟩
 | ref p =>
   cases r
   rcases ty with ⟨rfl,xs,hq⟩ | ⟨rfl,o,hk,hc,hd⟩ | ⟨rfl,hk⟩ | ⟨rfl,S,n,hk⟩
   · obtain ⟨its,_,pl,_⟩:=I.list hq
     refine ⟨pl.isList.typeIs,λ a e=>?_⟩
     cases e
     obtain ⟨o,n,e,c,hd,_⟩:=pl
     exact ⟨o,e,hd⟩
   · refine ⟨⟨o,I.kIn p o hk,hc⟩,λ a e=>?_⟩
     cases e
     exact ⟨o,I.kIn _ o hk,hd⟩
   · have z:∃ o,s.heap.get? p=some o/\o.ExactDict:=by
      rcases hk with ⟨kvs,hk⟩ | ⟨kvs,hk⟩
      · obtain ⟨_,_,_,_,o,_,_,e,ex,_⟩:=I.hok p _ hk
        exact ⟨o,e,ex⟩
      · obtain ⟨_,_,_,_,o,_,_,e,ex,_⟩:=I.hok p _ hk
        exact ⟨o,e,ex⟩
     obtain ⟨o,e,ex⟩:=z
     refine ⟨⟨o,e,ex.1⟩,λ a e2=>?_⟩
     cases e2
     exact ⟨o,e,ex.2.1⟩
   · obtain ⟨o,_,_,_,e,ex,_⟩:=I.hok p _ hk
     refine ⟨⟨o,e,ex.1⟩,λ a e2=>?_⟩
     cases e2
     exact ⟨o,e,ex.2.1⟩
 | _=>exact False.elim ty
def tBM (K:Fq) (T:String) (r:V->List V->Hp->VK->Prop) (to:TE) (t:TA):TE:=λ σ H Q=>to σ H λ x H1=>tyV K T x H1/\t σ H1 λ xs H2=>r x xs H2 Q
variable {o e:Expr} {es:List Expr} {to:TE} {t:TA} {name:Str} {apos cpos:Pos} {T id:String} {r:V->List V->Hp->VK->Prop}
theorem Zy6 (pa:PlainAttrs T) (slot:Slot T name id) (hty:typeOf (.builtin id)=pure (.type "method_descriptor")) (hm:MtR X id r) (ho:PE X o to) (ha:PA X (e::es) t)
 (hbase:attributeBase o name X.env (eval o X.env)=eval o X.env:=by rfl)
 (hfew:((backTo cpos (starEach (e::es) X.env)).all (λ x=>!x.1) && (backToKw cpos (keywordEach [] X.env)).all (λ x=>x.1.isSome)
  && decide ((e::es).length+([]:List Keyword).length+(if ([]:List Keyword).isEmpty then 0 else 1)<30))=true:=by rfl)
 (hline:(apos.endLine == cpos.line)=true:=by rfl) (hs:starEach (e::es) X.env=(false,eval e X.env)::starEach es X.env:=by rfl) (hplain:(backTo cpos (starEach es X.env)).any (·.1)=false:=by rfl) :
 PE X (.Call (.Attribute o name apos) (e::es) [] cpos) (tBM X.K T r to t):=by
 intro pins s σ H Q I h
 refine wpAny_Call_method_late hbase hfew hline rfl (thn (ho pins s σ H _ I h) λ v s1 ⟨x,H1,I1,r1,ty,q1⟩=>?_)
 obtain ⟨h1,h2⟩:=Z1r I1 r1 ty
 refine ⟨T,id,pa,slot,hty,h1,h2,?_⟩
 have hA:=ha cpos pins s1 σ H1 _ I1 q1
 rw [hs] at hA ⊢
 refine Calls.callWith_builtin (by show (false || (backTo cpos (starEach es X.env)).any (·.1))=false; rw [hplain] <;> rfl) (Calls.evalArgs_plain ?_)
 exact thn hA λ us s2 ⟨vs,H2,I2,r2,q2⟩=>hm pins s2 σ H2 x vs v us Q I2 r1 r2 q2
/- xs.append(e),list.index on a module's tuple .. are MtR facts of 06m -/
end
end L2
namespace L2
open PySem PySem.Spec PyProof.Rows
def MtM (X:Cx) (id:String) (r:V->List V->Hp->VK->Prop):Prop :=
 ∀ (pins:List (Addr×Obj)) (s:Shared) (σ:St) (H:Hp) (x:V) (xs:List V) (v:Value) (us:List Value) (Q:VK),Inv X pins σ H s->RelV x v->Vals xs us->r x xs H Q ->
   wpAny (model X.prog X.w) X.A (call (.builtin id) (v::us)) (EP X pins σ Q) X.xe s
theorem Vals.one:∀ {x:V} {us:List Value},Vals [x] us->∃ u,us=[u]/\RelV x u
 | _,_,.cons r .nil=>⟨_,rfl,r⟩
theorem Vals.two:∀ {x y:V} {us:List Value},Vals [x,y] us->∃ u v,us=[u,v]/\RelV x u/\RelV y v
 | _,_,_,.cons r (.cons q .nil)=>⟨_,_,rfl,r,q⟩
theorem Vals.rep {xs:List V} {us:List Value} (h:Vals xs us):∀ k:Nat,Vals (List.replicate k xs).flatten (List.replicate k us).flatten
 | 0=>.nil
 | k+1=>by
   rw [List.replicate_succ,List.replicate_succ,List.flatten_cons,List.flatten_cons]
   exact Vals.append h (Vals.rep h k)
theorem Znl (its:List Value):∀ (k:Nat) (acc:List Value),
 List.foldl (λ x1 x2=>x1++x2) acc.toArray (List.replicate k its.toArray)=(acc++(List.replicate k its).flatten).toArray
 | 0,acc=>by simp
 | k+1,acc=>by
   have e:acc.toArray++its.toArray=(acc++its).toArray:=by simp
   have e2:(acc++its)++(List.replicate k its).flatten=acc++(List.replicate (k+1) its).flatten:=by
    rw [List.replicate_succ,List.flatten_cons,List.append_assoc]
   rw [← e2,← Znl its k (acc++its),← e,List.replicate_succ,List.foldl_cons]
section
variable {X:Cx} {pins:List (Addr×Obj)} {σ:St} {H:Hp} {s:Shared} {l b:Addr} {xs ys zs:List V}
theorem Inv.lset {its its':List Value} {n:Nat} {f:Array Value->Array Value} {t':Nat} (I:Inv X pins σ H s) (hH:H l=some (.lst xs))
 (e:s.heap.get? l=some { cls:=.type "list",data:=.seq its.toArray n }) (hf:f its.toArray=its'.toArray) (hv:Vals ys its') (hz:ys.length<=sizeLine) :
 Inv X pins σ (upd H l (.lst ys)) { s with heap:=s.heap.update l (Obj.mapSeq f),toks:=t' }:=by
 have q:=PySem.IsL.update e f
 rw [hf] at q
 refine I.write (x:=l) (e:=l) (by rw [hH]; exact trivial) (.inl rfl) (λ b' u hb hu=>(Heap.get?_update_other s.heap (Obj.mapSeq f) (Ne.symm hb)).trans hu) ⟨_,q⟩ ?_
 exact ⟨hz,its',_,hv,q⟩
theorem Inv.lnew {its:List Value} {t':Nat} (I:Inv X pins σ H s) (hv:Vals ys its) (hz:ys.length<=sizeLine) :
 Inv X pins σ (upd H s.heap.objs.size (.lst ys)) { s with heap:=s.heap.push { cls:=.type "list",data:=.seq its.toArray },toks:=t' } :=
 I.laid (λ _ _ q=>Heap.get?_push_of_some _ q) (Nat.le_refl _) ⟨hz,its,0,hv,Heap.get?_push_size _ rfl⟩
theorem Inv.fresh (I:Inv X pins σ H s):H s.heap.objs.size=none:=I.hok.fresh (Nat.le_refl _)
theorem Inv.lstM (I:Inv X pins σ H s) (hH:H l=some (.lst xs)):xs.length<=sizeLine/\∃ (its:List Value) (n:Nat),Vals xs its/\xs.length=its.length/\s.heap.get? l=some { cls:=.type "list",data:=.seq its.toArray n }:=by
 obtain ⟨z,its,n,r,e⟩:=I.hok l _ hH
 exact ⟨z,its,n,r,r.length,e⟩
theorem Zqo {n:Nat} (h:n<=sizeLine):Builtin.List.listTooLong n=false:=by
 unfold Builtin.List.listTooLong
 exact decide_eq_false (by omega)
end
section
variable {X:Cx}
def Zem:V->List V->Hp->VK->Prop:=λ x vs H Q=>∃ l xs y,x=.ref l/\vs=[y]/\H l=some (.lst xs)/\xs.length<sizeLine/\Q .non (upd H l (.lst (xs++[y])))
theorem Ed:MtM X "list.append" Zem:=by
 intro pins s σ H x vs v us Q I rx rv h
 obtain ⟨l,xs,y,rfl,rfl,hH,hz,q⟩:=h
 cases rx
 obtain ⟨u,rfl,ru⟩:=rv.one
 obtain ⟨z,its,n,r,hl,e⟩:=I.lstM hH
 refine call_meets F.slot_list_append ⟨_,e,rfl⟩ F.entry_list_append (F.args_list_append_2 _ _) (PySem.list_append l its.toArray n u (by rw [List.size_toArray]; omega)) ⟨e,?_⟩
 refine ⟨.non,_,I.lset (its':=its++[u]) hH e (by simp) (r.append (.cons ru .nil)) ?_,rfl,q⟩
 rw [List.length_append,List.length_singleton]
 omega
def Zz3:V->List V->Hp->VK->Prop:=λ x vs H Q=>∃ l b xs zs,x=.ref l/\vs=[.ref b]/\H l=some (.lst xs)/\H b=some (.lst zs)/\xs.length+zs.length<=sizeLine/\Q .non (upd H l (.lst (xs++zs)))
theorem Z3y:MtM X "list.extend" Zz3:=by
 intro pins s σ H x vs v us Q I rx rv h
 obtain ⟨l,b,xs,zs,rfl,rfl,hH,hB,hz,q⟩:=h
 cases rx
 obtain ⟨u,rfl,ru⟩:=rv.one
 cases ru
 obtain ⟨z,its,n,r,hl,e⟩:=I.lstM hH
 obtain ⟨z2,its2,n2,r2,hl2,e2⟩:=I.lstM hB
 have hsz:its.toArray.size+its2.toArray.size<=sizeLine:=by rw [List.size_toArray,List.size_toArray]; omega
 have hlong:¬ (!its.toArray.isEmpty && Builtin.List.listTooLong (its.toArray.size+its2.toArray.size))=true:=by
  rw [Zqo hsz,Bool.and_false]
  exact Bool.false_ne_true
 refine call_meets F.slot_list_extend ⟨_,e,rfl⟩ F.entry_list_extend (F.args_list_extend_2 _ _)
  (AutoSeq1.list_extend_list_list_0 l its.toArray n b its2.toArray n2 hlong (by rw [List.size_toArray]; omega) (by omega)) ⟨e,e2,?_⟩
 refine ⟨.non,_,I.lset (its':=its++its2) hH e (by simp) (r.append r2) ?_,rfl,q⟩
 rw [List.length_append]
 omega
def rCat:R2:=λ x y H Q=>∃ l b xs zs,x=.ref l/\y=.ref b/\H l=some (.lst xs)/\H b=some (.lst zs)/\xs.length+zs.length<=sizeLine/\∀ p,H p=none->Q (.ref p) (upd H p (.lst (xs++zs)))
theorem Z2f:OpR X (binaryOp .Add) rCat:=by
 intro pins s σ H x y v u Q I rx ry h
 obtain ⟨l,b,xs,zs,rfl,rfl,hH,hB,hz,q⟩:=h
 cases rx
 cases ry
 obtain ⟨z,its,n,r,hl,e⟩:=I.lstM hH
 obtain ⟨z2,its2,n2,r2,hl2,e2⟩:=I.lstM hB
 refine PySem.P.add_list e e2 ?_ (by rw [List.size_toArray,List.size_toArray]; omega)
 have ea:its.toArray++its2.toArray=(its++its2).toArray:=by simp
 rw [ea]
 exact ⟨.ref _,_,I.lnew (t':=s.toks) (r.append r2) (by rw [List.length_append]; omega),rfl,q _ I.fresh⟩
def rRep:R2:=λ x y H Q=>∃ l k xs,x=.ref l/\y=.int k/\H l=some (.lst xs)/\-(2 ^ 63)<=k/\k<2 ^ 63/\xs.length*k.toNat<=sizeLine /\
 ∀ p,H p=none->Q (.ref p) (upd H p (.lst (List.replicate k.toNat xs).flatten))
theorem Z0n {α:Type} (xs:List α) (k:Nat):(List.replicate k xs).flatten.length=k*xs.length:=by
 induction k with
 | zero=>simp
 | succ k ih=>rw [List.replicate_succ,List.flatten_cons,List.length_append,ih,Nat.succ_mul,Nat.add_comm]
theorem Z2c:OpR X (binaryOp .Mult) rRep:=by
 intro pins s σ H x y v u Q I rx ry h
 obtain ⟨l,k,xs,rfl,rfl,hH,h1,h2,hz,q⟩:=h
 cases rx
 obtain ⟨t,rfl⟩:=ry
 obtain ⟨z,its,n,r,hl,e⟩:=I.lstM hH
 have hlen:its.toArray.size*k.toNat<=sizeLine:=by rw [List.size_toArray,← hl]; exact hz
 have hcap:¬ its.toArray.size*k.toNat > (2 ^ 63-1) / 8:=by
  have:(sizeLine:Nat)<=(2 ^ 63-1) / 8:=by decide
  omega
 have hfit:¬ (!Builtin.List.listFitsIndex k)=true:=by
  rw [fitsIndex_both h1 h2]
  exact Bool.false_ne_true
 have hlong:¬ Builtin.List.listTooLong (its.toArray.size*k.toNat)=true:=by
  rw [Zqo hlen]
  exact Bool.false_ne_true
 have hnew:List.foldl (λ x1 x2=>x1++x2) #[] (List.replicate (if its.toArray.isEmpty=true then 0 else k.toNat) its.toArray)=(List.replicate k.toNat its).flatten.toArray:=by
  have f0:∀ m:Nat,List.foldl (λ x1 x2=>x1++x2) #[] (List.replicate m its.toArray)=(List.replicate m its).flatten.toArray:=λ m=>by
   have:=Znl its m []
   rw [List.nil_append] at this
   exact this
  rw [f0]
  cases its with
  | nil=>simp
  | cons a r'=>rw [if_neg (by simp)]
 refine wpAny_binaryOp_repeat_ref (T:="list") (U:="int") (by decide) ⟨_,e,rfl⟩ (λ s'=>typeIs_int s' k t) noFill_list_mul F.fills_int_mul F.slot_int_rmul repeat_list F.slot_int_index.lookup
  (call_meets F.slot_int_rmul (typeIs_int s k t) F.entry_int_rmul (F.args_int_rmul_2 _ _) (int___rmul___int_list k t l its.toArray n)
   ⟨e,rfl,⟨_,e,rfl⟩,call_meets F.slot_list_mul ⟨_,e,rfl⟩ F.entry_list_mul (F.args_list_mul_2 _ _) (AutoListH.list___mul___list_int_3 l its.toArray n k t hfit hcap hlong) ⟨e,?_⟩⟩)
 rw [hnew]
 exact ⟨.ref _,_,I.lnew (t':=s.toks) (r.rep k.toNat) (by rw [Z0n,Nat.mul_comm]; exact hz),rfl,q _ I.fresh⟩
end
section
variable {prog:Program} {w:World} {A:Around} {E:Value->Shared->Prop} {s:Shared}
end
section
variable {X:Cx}
end
end L2
namespace Att
open PySem PySem.W PySem.Calls PyProof.Rows
theorem Zkx {P:Params} {h:Heap}:∀ (ns:List Int) (vs:List Value),WellAll P h vs (ns.map WData.int)->IntsAre vs ns:=by
 intro ns
 induction ns with
 | nil =>
   intro vs w
   rw [List.map_nil] at w
   cases w
   exact .nil
 | cons n ns ih =>
   intro vs w
   rw [List.map_cons] at w
   cases w with
   | cons a b =>
     cases a
     exact .cons _ _ (ih _ b)
theorem Zvg {l:OpenLaw} {n:Nat} (hn:l.most=some n) {P:Params} {h:Heap} {args:List WData} {vals:List Value}
 (hpre:l.row.toRowW.claim.pre args=true) (hwl:WellAll P h vals args) :
 ∃ a vs ns,vals=[Value.ref a]/\args=[WData.list (ns.map WData.int)]/\h.get? a=some { cls:=.type "list",data:=.seq vs.toArray }/\IntsAre vs ns/\ns.length<=n:=by
 have hsh:WShape.hasAll [] args [.list .int]=true:=(pre_splitW hpre).1
 have hc:l.pre.holds [] { args:=args }=true:=(pre_splitW hpre).2
 obtain ⟨d,r,rfl,h1,h2⟩:=hasAllW_cons hsh
 obtain rfl:=hasAllW_nil h2
 obtain ⟨xs,rfl,h3⟩:=hasW_list h1
 obtain ⟨ns,rfl⟩:=items_int h3
 have hlen:ns.length<=n:=by
  unfold OpenLaw.pre at hc
  have h4:(WTm.not (.lt (.lit (.int (n:Int))) (.len (.arg 0)))).holds [] { args:=[.list (ns.map .int)] }=true:=by
   have h4:=(holds_andW hc).1
   rw [hn] at h4
   exact h4
  have h5:=condW_of h4 (w_not (w_lt w_lit (w_len_list (w_arg rfl))))
  rw [List.length_map] at h5
  refine Nat.le_of_not_lt λ q=>?_
  have q':(n:Int)<((ns.length:Nat):Int):=by omega
  first
   | (rw [decide_eq_true q'] at h5; exact absurd h5 (by decide))
   | (simp at h5; omega)
 cases hwl with
 | cons w1 w2 =>
   cases w2
   cases w1 with
   | list ho hall=>exact ⟨_,_,ns,rfl,rfl,ho,Zkx ns _ hall,hlen⟩
theorem Zvr (l:OpenLaw) (args:List WData):l.row.toRowW.claim.post args (.bool true) args=true :=
 postW_of (r:=l.row.toRowW) (X:=(true == true))
  (show WShape.has [] (.bool true) .bool=true by first | rfl | decide | simp [WShape.has,WShape.arms,WShape.armsAll])
  (show (WTm.eq .res (.lit (.bool true))).value [] { args:=args,res:=some (.bool true),after:=args }=some (.bool (true == true)) from w_eq_bool (w_res rfl) w_lit) rfl
section
variable {prog:Program} {w:World} {A:Around} {E:Value->Shared->Prop} {s:Shared} {K:Frag}
def ledger (h:Heap) (L d:Addr):List (Addr×Obj):=(List.range h.objs.size).filterMap λ a=>if a=L\/a=d then none else (h.get? a).map λ o=>(a,o)
end
end Att
namespace L2
open PySem PySem.Spec PyProof.Rows
theorem Zm9:∀ {vs:List Value} {ns:List Int},IntsAre vs ns->Vals (ns.map V.int) vs
 | _,_,.nil=>.nil
 | _,_,.cons n t h=>.cons ⟨t,rfl⟩ (Zm9 h)
def Only (H:Hp):Prop:=∀ b,H b=none\/∃ o xs,H b=some (.frz o (.lst xs))
theorem Zyd {P:Program} {w:World} {K:Fq} {mg mb:Str->Option Value} {CX:CXT} {k:Nat} {fa a:Addr} {fd:FuncData} {x:Str} {sp:Sp} {s₁:Shared} {vs:List Value} {ns:List Int}
 (KX:K.In s₁.heap) (hns:s₁.heap.Ns mainGlobals mg) (hb:s₁.heap.Ns builtinsNs mb) (hbb:∀ x:Str,x≠"__name__"->mb x=bootBuiltins x) (hlim:s₁.heap.NoLimit) (hg:s₁.gens=#[])
 (ha:s₁.heap.get? a=some { cls:=.type "list",data:=.seq vs.toArray }) (hi:IntsAre vs ns) (hl:ns.length<=sizeLine) (hr:Room k callerA)
 (F:∀ base:Heap,K.In base->base.Ns mainGlobals mg->FnOk P w K mg base CX k fa fd [x] sp) (hbind:∀ (s:Shared) (u:Value),BindsTo s fd ⟨[u],[]⟩ [(x,u)])
 (hsp:∀ H:Hp,Only H->SqL K H a (ns.map V.int)->sp [.ref a] H (λ v _=>v=.bl true) λ _ _ _=>False)
 (hCX:∀ H e s',CX [] H s₁ (λ _ _ _=>False) e s'->False) :
 codeAny (model P w) callerA (.call (.ref fa) ⟨[.ref a],[]⟩) (λ r s'=>r=.ok (.ret (.bool true))/\OldK s₁.heap s'.heap/\s'.os=s₁.os/\AllBare s'.gens) s₁:=by
 have rv:=Zm9 hi
 have lenV:=hi.length
 have core:∀ H:Hp,Only H->SqL K H a (ns.map V.int)->HOk P w H s₁.heap->(∀ b,H b≠none->b=a)->(H a≠none->K.lookup a=none) ->
  codeAny (model P w) callerA (.call (.ref fa) ⟨[.ref a],[]⟩) (λ r s'=>r=.ok (.ret (.bool true))/\OldK s₁.heap s'.heap/\s'.os=s₁.os/\AllBare s'.gens) s₁:=by
  intro H hO hS hok hA hK
  have base_of:∀ {b:Addr} {o:Obj},s₁.heap.get? b=some o->H b=none->(hidT s₁.heap H).get? b=some o:=λ e n=>Zyi e n
  have noA:∀ {b:Addr} {o:Obj} {es:Array DictEntry} {ep:Nat},s₁.heap.get? b=some o->o.data=.dict es ep->H b=none:=λ {b o es ep} e d=>by
   cases q:H b with
   | none=>rfl
   | some u =>
     have e':b=a:=hA b (by rw [q]; simp)
     subst e'
     rw [ha] at e; cases e
     have d':Data.seq vs.toArray _=Data.dict es ep:=d
     cases d'
  have nsK:∀ {b:Addr} {m:Str->Option Value},s₁.heap.Ns b m->(hidT s₁.heap H).Ns b m:=λ {b m} ⟨o,es,ep,e,d,r⟩=>⟨o,es,ep,base_of e (noA e d),d,r⟩
  have hKb:K.In (hidT s₁.heap H):=λ b o e=>base_of (KX b o e) (by
   cases q:H b with
   | none=>rfl
   | some u =>
     have e':b=a:=hA b (by rw [q]; simp)
     subst e'
     rw [hK (by rw [q]; simp)] at e; cases e)
  have hM:Mod K mg (hidT s₁.heap H):=⟨hKb,nsK hns,⟨mb,nsK hb,hbb⟩,let ⟨mc,h1,h2⟩:=hlim; ⟨mc,nsK h1,h2⟩⟩
  have e0:Env0 P w K mg (hidT s₁.heap H) callerA [] s₁ H:=⟨rfl,hM,λ b o e=>Z0k e,Nat.le_of_eq (Zwo _ _),trivial,λ b hb=>absurd (show b∈([]:List Addr) from hb) (by simp),hok,.of_eq hg⟩
  refine codeAny_mono ((F _ hKb (nsK hns)).run callerA [] s₁ H ⟨[.ref a],[]⟩ [.ref a] [.ref a] _ _ hr e0 (hbind s₁ (.ref a)) (.cons rfl .nil) (hsp H hO hS)) λ r s' h=>?_
  cases r with
  | error e=>exact (hCX H e s' h).elim
  | ok fl =>
    cases fl with
    | next=>exact False.elim h
    | brk=>exact False.elim h
    | cont=>exact False.elim h
    | ret u =>
      obtain ⟨v,H',os,bare,un,hok',r',q⟩:=h
      have q':v=.bl true:=q
      subst q'
      obtain rfl:u=Value.bool true:=r'
      refine ⟨rfl,OldK.of_keep λ b o e=>?_,os,bare⟩
      cases q:H b with
      | none=>exact un.keep b o e q (by intro z; exact absurd (show b∈([]:List Addr) from z) (by simp)) (by simp)
      | some u =>
        rcases hO b with z | ⟨ob,xs,z⟩
        · rw [q] at z; cases z
        · have z2:=un.frzs b ob _ z
          obtain ⟨e1,_⟩:=hok b _ z
          obtain ⟨e2,_⟩:=hok' b _ z2
          rw [e] at e1; cases e1
          exact e2
 cases hk:K.lookup a with
 | some o =>
   have e:=KX a o hk
   rw [ha] at e
   cases e
   refine core (λ _=>none) (λ _=>.inl rfl) (.inr ⟨_,vs.toArray,_,hk,rfl,rfl,rfl,by rw [List.size_toArray,lenV]; exact hl,by simpa using rv⟩) (λ b u z=>by have z':(none:Option HO)=some u:=z; cases z') (λ b z=>absurd rfl z) λ z=>absurd rfl z
 | none =>
   refine core (λ b=>if b=a then some (.frz { cls:=.type "list",data:=.seq vs.toArray } (.lst (ns.map V.int))) else none) (λ b=>?_) (.inl (.inr ⟨{ cls:=.type "list",data:=.seq vs.toArray },if_pos rfl⟩)) (λ b u z=>?_) (λ b z=>?_) λ _=>hk
   · by_cases hb:b=a
     · exact .inr ⟨_,_,if_pos hb⟩
     · exact .inl (if_neg hb)
   · by_cases hb:b=a
     · have z':=(if_pos hb).symm.trans z
       cases z'
       subst hb
       exact ⟨ha,by rw [List.length_map]; exact hl,vs,_,rv,ha⟩
     · have z':=(if_neg hb).symm.trans z
       cases z'
   · by_cases hb:b=a
     · exact hb
     · exact absurd (if_neg hb) z
end L2
namespace L2
open PySem PySem.Spec PyProof.Rows
abbrev KOf {K:Fq} {h:Heap} (_:K.In h):Fq:=K
end L2
namespace L2
open PySem PySem.Spec PyProof.Rows
def Qw (s:Stmt) (j:Nat):Stmt:=match s with
 | .ClassDef _ _ _ body _ _ _ _ _ _ _=>body.getD j (.Pass ⟨0,0,0,0⟩)
 | _=>.Pass ⟨0,0,0,0⟩
def Qy (s:Stmt):Arguments:=match s with
 | .FunctionDef _ a _ _ _ _ _ _ _ _=>a
 | _=>{ posonlyargs:=[],args:=[],vararg:=none,kwonlyargs:=[],kw_defaults:=[],kwarg:=none,defaults:=[] }
def Xw (s:Stmt):List Stmt:=match s with
 | .FunctionDef _ _ b _ _ _ _ _ _ _=>b
 | _=>[]
def Zq (s:Stmt):Scope:=match s with
 | .FunctionDef _ _ _ _ _ _ sc _ _ _=>sc
 | _=>{ kind:=.function,names:=[],isGenerator:=false,isCoroutine:=false }
abbrev CX0:CXT:=λ _ _ _ _ _ _=>False
abbrev E0:XK:=λ _ _ _=>False
theorem Ym {X:Cx}:Passes CX0 X E0:=λ _ _ _ _ _ _ _ h=>h.elim
structure Fun (K:Fq) (x qual:Str) (st:Stmt) (f:Addr) (fd:FuncData):Prop where
 ex:∃ (oc:Value) (od:Option Addr) (kV doc pm:Value) (an:Option Addr) (cdv ct:Value) (osl:Array (Option Value)),
  fd=PySem.W.fnOf x qual (Qy st) (Xw st) (Zq st) .none kV doc pm an cdv ct/\K.lookup f=some ⟨oc,od,.func fd,osl⟩/\PySem.W.codeIn K cdv qual=true
 kp:PySem.W.keepIn K (.ref f)=true
section
variable {P:Program} {w:World} {K:Fq} {mg:Str->Option Value} {base:Heap}
theorem Fun.ok {x qual:Str} {st:Stmt} {f:Addr} {fd:FuncData} {N ps:List Str} {k:Nat} {sp:Sp} (F:Fun K x qual st f fd) (S:FnScope N ps (Zq st)) (len:∀ vs H Q E,sp vs H Q E->vs.length=ps.length)
 (hbody:∀ (cdv:Value) (A:Around) (outer:List Env) (s:Shared) (H:Hp) (vs:List V) (Q:VK) (E:XK),Room k (A.deeper (envOfC qual (Zq st) s.heap.objs.size f cdv))->sp vs H Q E ->
  ∃ t,PSs (cxOf CX0 P w K mg base N qual (Zq st) f cdv A outer s H E).nox (Xw st) t/\t { nx:=λ _ H'=>Q .non H',rt:=Q } (start N vs) H):FnOk P w K mg base CX0 (k+1) f fd ps sp:=by
 obtain ⟨oc,od,kV,doc,pm,an,cdv,ct,osl,rfl,lk,hcd⟩:=F.ex
 refine Zuj lk hcd S len λ A outer s H vs Q E hr hsp=>?_
 obtain ⟨t,h,q⟩:=hbody cdv A outer s H vs Q E hr hsp
 exact ⟨t,h.nox,q⟩
theorem Fun.binds {x qual:Str} {st:Stmt} {f:Addr} {fd:FuncData} {ps:List Str} (F:Fun K x qual st f fd)
 (h:∀ (kV doc pm:Value) (an:Option Addr) (cdv ct:Value) (us:List Value),us.length=ps.length->bindArgs (PySem.W.fnOf x qual (Qy st) (Xw st) (Zq st) .none kV doc pm an cdv ct) ⟨us,[]⟩=pure (ps.zip us)):Binds K fd ps []:=by
 obtain ⟨oc,od,kV,doc,pm,an,cdv,ct,osl,rfl,lk,hcd⟩:=F.ex
 exact .all (h kV doc pm an cdv ct)
theorem Zwr {x qual:Str} {st:Stmt} {f:Addr} {oc:Value} {od an:Option Addr} {osl:Array (Option Value)} {kV doc pm cdv ct:Value} (l:K.lookup f=some ⟨oc,od,.func (PySem.W.fnOf x qual (Qy st) (Xw st) (Zq st) .none kV doc pm an cdv ct),osl⟩)
 (c:PySem.W.codeIn K cdv qual=true) (k:PySem.W.keepIn K (.ref f)=true):Fun K x qual st f (PySem.W.fnOf x qual (Qy st) (Xw st) (Zq st) .none kV doc pm an cdv ct):=⟨⟨oc,od,kV,doc,pm,an,cdv,ct,osl,rfl,l,c⟩,k⟩
end
theorem Wt {n:Nat} (h:n<=1000):n<sizeLine:=Nat.lt_of_le_of_lt h (by decide)
section
variable {X:Cx}
theorem pv (i:Nat) {x:Str} {pos:Pos} (hN:X.N[i]?=some x:=by rfl) (hv:Vis X.env.scope x:=by first | exact Or.inl rfl | exact Or.inr (Or.inl rfl) | exact Or.inr (Or.inr rfl)) (hd:(x == ("__debug__":Str))=false:=by decide)
 (hcd:(x == ("__classdict__":Str))=false:=by decide):PE X (.Name x pos) (Zc i):=Z12 hN hv hd hcd
end
theorem iteF {A B:Prop} (h:B):if false=true then A else B:=by
 rw [if_neg Bool.false_ne_true]
 exact h
theorem iteT {A B:Prop} (h:A):if true=true then A else B:=by
 rw [if_pos rfl]
 exact h
def Same (H H':Hp):Prop:=∀ b o,H b=some o->H' b=some o
theorem Same.refl (H:Hp):Same H H:=λ _ _ h=>h
theorem Same.trans {H H1 H2:Hp} (a:Same H H1) (b:Same H1 H2):Same H H2:=λ c o h=>b c o (a c o h)
theorem Same.free {H H':Hp} (e:Same H H') {l:Addr} (h:H' l=Option.none):H l=Option.none:=by
 cases q:H l with
 | none=>rfl
 | some o =>
   rw [e l o q] at h
   cases h
theorem Same.seq {K:Fq} {H H':Hp} {a:Addr} {xs:List V} (e:Same H H') (h:SqL K H a xs):SqL K H' a xs:=by
 rcases h with (h | ⟨o,h⟩) | h
 · exact .inl (.inl (e _ _ h))
 · exact .inl (.inr ⟨o,e _ _ h⟩)
 · exact .inr h
end L2
set_option maxHeartbeats 4000000
namespace L2
open PySem PySem.Spec PyProof.Rows
theorem Zf4 {env:Env}:∀ (ns:List (Str×NameKind)) (cs:List (Str×Addr)),(∀ y∈ns,y.2=.free->∃ c,env.cells.lookup y.1=some c)->(∀ x c,cs.lookup x=some c->env.cells.lookup x=some c) ->
 ∃ cl:List (Str×Addr),(forIn ns cs λ (p:Str×NameKind) (r:List (Str×Addr))=>if (p.2 == NameKind.free)=true then (cellOf env p.1 >>= λ c=>pure (ForInStep.yield ((p.1,c)::r))) else (pure (ForInStep.yield r):Sem (ForInStep (List (Str×Addr)))))=(pure cl:Sem (List (Str×Addr))) /\
   (∀ x c,cl.lookup x=some c->env.cells.lookup x=some c)/\(∀ x c,cs.lookup x=some c->∃ c',cl.lookup x=some c')/\∀ y∈ns,y.2=.free->∃ c,cl.lookup y.1=some c
 | [],cs,_,hc=>⟨cs,rfl,hc,λ x c e=>⟨c,e⟩,λ y hy=>absurd hy (by simp)⟩
 | (n,k)::r,cs,h,hc=>by
   by_cases hk:k=.free
   · subst hk
     obtain ⟨c,e⟩:=h (n,.free) (by simp) rfl
     have hc2:∀ x c',((n,c)::cs).lookup x=some c'->env.cells.lookup x=some c':=λ x c' q=>by
      rw [List.lookup_cons] at q
      cases hx:x == n with
      | true=>rw [hx] at q; cases q; rw [eq_of_beq hx]; exact e
      | false=>rw [hx] at q; exact hc x c' q
     obtain ⟨cl,e1,e2,e3,e4⟩:=Zf4 r ((n,c)::cs) (λ y hy=>h y (List.mem_cons_of_mem _ hy)) hc2
     refine ⟨cl,?_,e2,λ x c' q=>?_,λ y hy hf=>?_⟩
     · rw [List.forIn_cons]
       show (if (NameKind.free == NameKind.free)=true then _ else _) >>= _=_
       rw [if_pos (by decide)]
       unfold cellOf
       rw [e]
       exact e1
     · by_cases hx:x=n
       · exact e3 x c (by rw [hx,List.lookup_cons]; simp)
       · exact e3 x c' (by rw [List.lookup_cons,beq_eq_false_iff_ne.mpr hx]; exact q)
     · rcases List.mem_cons.mp hy with z | z
       · rw [z]; exact e3 n c (by rw [List.lookup_cons]; simp)
       · exact e4 y z hf
   · obtain ⟨cl,e1,e2,e3,e4⟩:=Zf4 r cs (λ y hy=>h y (List.mem_cons_of_mem _ hy)) hc
     refine ⟨cl,?_,e2,e3,λ y hy hf=>?_⟩
     · rw [List.forIn_cons]
       have hb:(k == NameKind.free)=false:=by simpa using hk
       show (if (k == NameKind.free)=true then _ else _) >>= _=_
       rw [hb]
       exact e1
     · rcases List.mem_cons.mp hy with z | z
       · rw [z] at hf; exact absurd hf hk
       · exact e4 y z hf
theorem Zur {scope:Scope} {env:Env} (h:∀ y∈scope.names,y.2=.free->∃ c,env.cells.lookup y.1=some c) :
 ∃ cl,closureFor scope env=pure cl/\(∀ x c,cl.lookup x=some c->env.cells.lookup x=some c)/\∀ y∈scope.names,y.2=.free->∃ c,cl.lookup y.1=some c:=by
 obtain ⟨cl,e1,e2,_,e4⟩:=Zf4 (env:=env) scope.names [] h (λ x c q=>by simp at q)
 refine ⟨cl,?_,e2,e4⟩
 show ((forIn scope.names [] λ (p:Str×NameKind) (r:List (Str×Addr))=>if (p.2 == NameKind.free)=true then (cellOf env p.1 >>= λ c=>pure (ForInStep.yield ((p.1,c)::r))) else (pure (ForInStep.yield r):Sem (ForInStep (List (Str×Addr))))) >>= λ r=>(pure r:Sem (List (Str×Addr))))=pure cl
 rw [e1]
 rfl
def Q4 (X:Cx) (N:List Str) (scope:Scope) (cl:List (Str×Addr)) (C:Addr) (s₀:Shared) (H₀:Hp) (ex:List Addr):Cx where
 prog:=X.prog
 w:=X.w
 K:=X.K
 mg:=X.mg
 base:=X.base
 A:=X.A
 N:=N
 s₀:=s₀
 H₀:=H₀
 env:=compEnvC scope cl C X.env
 outer:=X.stack
 stack:=X.stack
 ex:=ex
 fn:=λ _=>false
 calm:=X.calm
 pn:=[]
 xe:=λ _ _=>False
def X5 (l:List (Option Nat)) (σ:St):St:=l.map λ o=>match o with | none=>none | some k=>(σ[k]?).join
def CompN (X:Cx) (scope:Scope):List Str->List (Option Nat)->Prop
 | [],[]=>True
 | _::N,none::l=>CompN X scope N l
 | x::N,some k::l=>(X.N[k]?=some x/\(X.env.scope.names.lookup x=some .cell\/X.env.scope.names.lookup x=some .free)/\scope.names.lookup x=some .free)/\CompN X scope N l
 | _,_=>False
theorem CompN.len {X:Cx} {scope:Scope}:∀ {N:List Str} {l:List (Option Nat)},CompN X scope N l->l.length=N.length
 | [],[],_=>rfl
 | _::N,none::l,h=>by simp [CompN.len (N:=N) (l:=l) h]
 | _::N,some _::l,h=>by simp [CompN.len (N:=N) (l:=l) h.2]
 | [],none::_,h=>h.elim
 | [],some _::_,h=>h.elim
 | _::_,[],h=>h.elim
theorem CompN.get {X:Cx} {scope:Scope}:∀ {N:List Str} {l:List (Option Nat)} {i k:Nat} {x:Str},CompN X scope N l->N[i]?=some x->l[i]?=some (some k) ->
 X.N[k]?=some x/\(X.env.scope.names.lookup x=some .cell\/X.env.scope.names.lookup x=some .free)/\scope.names.lookup x=some .free
 | [],[],_,_,_,_,e,_=>by simp at e
 | _::N,none::l,0,_,_,_,_,e=>by simp at e
 | _::N,none::l,i+1,k,x,h,e1,e2=>CompN.get (N:=N) (l:=l) (i:=i) h (by simpa using e1) (by simpa using e2)
 | y::N,some j::l,0,k,x,h,e1,e2=>by
   have e1':y=x:=by simpa using e1
   have e2':j=k:=by simpa using e2
   rw [← e1',← e2']
   exact h.1
 | _::N,some _::l,i+1,k,x,h,e1,e2=>CompN.get (N:=N) (l:=l) (i:=i) h.2 (by simpa using e1) (by simpa using e2)
 | [],none::_,_,_,_,h,_,_=>h.elim
 | [],some _::_,_,_,_,h,_,_=>h.elim
 | _::_,[],_,_,_,h,_,_=>h.elim
theorem Zwm (l:List (Option Nat)) (σ:St):(X5 l σ).length=l.length:=by unfold X5; rw [List.length_map]
theorem Zwn {l:List (Option Nat)} {σ:St} {i:Nat} {v:V} (h:(X5 l σ)[i]?=some (some v)):∃ k,l[i]?=some (some k)/\σ[k]?=some (some v):=by
 unfold X5 at h
 rw [List.getElem?_map] at h
 cases e:l[i]? with
 | none=>rw [e] at h; cases h
 | some o =>
   rw [e] at h
   cases o with
   | none=>simp at h
   | some k =>
     refine ⟨k,rfl,?_⟩
     have h2:(σ[k]?).join=some v:=by simpa using h
     cases q:σ[k]? with
     | none=>rw [q] at h2; cases h2
     | some z =>
       rw [q] at h2
       have h3:z=some v:=by simpa using h2
       rw [h3]
structure CompScope (X:Cx) (N:List Str) (l:List (Option Nat)) (scope:Scope):Prop where
 kind:scope.kind=.function
 loc:(scope.names.all λ y=>y.2 != .local || (scope.names.lookup y.1 == some .local))=true
 nocell:(scope.names.all λ y=>y.2 != .cell)=true
 fre:(scope.names.all λ y=>y.2 != .free || (X.env.scope.names.lookup y.1 == some .cell || X.env.scope.names.lookup y.1 == some .free))=true
 nm:CompN X scope N l
 nd:N.Nodup
theorem Gi {env:Env} {x:Str} {k:NameKind}:∀ {names:List (Str×NameKind)},(names.map λ (p:Str×NameKind)=>if (p.2 == NameKind.free && env.scope.kind == .function && env.kindOf p.1 == some .cell)=true then (p.1,NameKind.cell) else (p.1,p.2)).lookup x=some k ->
 ∃ k0,names.lookup x=some k0/\(k=k0\/(k0=.free/\k=.cell))
 | [],h=>by simp at h
 | (n,k1)::r,h=>by
   rw [List.map_cons] at h
   by_cases hc:(k1 == NameKind.free && env.scope.kind == .function && env.kindOf n == some .cell)=true
   · have hk:k1=.free:=by
      have h1:=hc
      rw [Bool.and_eq_true,Bool.and_eq_true] at h1
      simpa using h1.1.1
     rw [if_pos hc,List.lookup_cons] at h
     rw [List.lookup_cons]
     cases hx:x == n with
     | true=>rw [hx] at h; exact ⟨k1,rfl,.inr ⟨hk,by simpa using h.symm⟩⟩
     | false=>rw [hx] at h; exact Gi h
   · rw [if_neg hc,List.lookup_cons] at h
     rw [List.lookup_cons]
     cases hx:x == n with
     | true=>rw [hx] at h; exact ⟨k1,rfl,.inl (by simpa using h.symm)⟩
     | false=>rw [hx] at h; exact Gi h
theorem Zca {env:Env} {x:Str}:∀ {names:List (Str×NameKind)},names.lookup x=some .free ->
 ∃ k,(names.map λ (p:Str×NameKind)=>if (p.2 == NameKind.free && env.scope.kind == .function && env.kindOf p.1 == some .cell)=true then (p.1,NameKind.cell) else (p.1,p.2)).lookup x=some k/\(k=.cell\/k=.free)
 | [],h=>by simp at h
 | (n,k1)::r,h=>by
   rw [List.map_cons]
   rw [List.lookup_cons] at h
   by_cases hc:(k1 == NameKind.free && env.scope.kind == .function && env.kindOf n == some .cell)=true
   · rw [if_pos hc,List.lookup_cons]
     cases hx:x == n with
     | true=>exact ⟨_,rfl,.inl rfl⟩
     | false=>rw [hx] at h; exact Zca h
   · rw [if_neg hc,List.lookup_cons]
     cases hx:x == n with
     | true =>
       rw [hx] at h
       have hk:k1=.free:=by simpa using h
       exact ⟨_,rfl,.inr hk⟩
     | false=>rw [hx] at h; exact Zca h
section
variable {X:Cx} {pins:List (Addr×Obj)} {σ:St} {H:Hp} {s:Shared} {N:List Str} {l:List (Option Nat)} {scope:Scope} {cl:List (Str×Addr)} {fp:List Addr}
theorem Zqx (S:CompScope X N l scope) (I:Inv X pins σ H s) (c1:∀ x c,cl.lookup x=some c->X.env.cells.lookup x=some c) (c2:∀ y∈scope.names,y.2=.free->∃ c,cl.lookup y.1=some c)
 (f:∀ b∈fp,FpOk X pins H b) (fo:∀ b∈fp,∃ o,s.heap.get? b=some o) {h':Heap} {m:Str->Option Value} (hn:h'.Ns s.heap.objs.size m) (hk:∀ b o,s.heap.get? b=some o->h'.get? b=some o) (t':Nat) :
 Inv (Q4 X N scope cl s.heap.objs.size s H fp) [] (X5 l σ) H { s with heap:=h',toks:=t' }:=by
 have cellH:∀ x c,cl.lookup x=some c->∃ v,h'.IsCell c v:=λ x c e=>by
  obtain ⟨v,o,ho,hd⟩:=I.cell x c (c1 x c e)
  exact ⟨v,o,hk c o ho,hd⟩
 have fr:∀ b∈fp,b<s.heap.objs.size:=λ b hb=>by
  obtain ⟨o,e⟩:=fo b hb
  exact Heap.lt_size e
 refine ⟨⟨I.ok.mod,S.kind,I.ok.glob,I.ok.blt,Nat.le_refl _,λ x y c h1 h2=>I.ok.inj x y c (c1 x c h1) (c1 y c h2),λ x hx=>?_,λ x c h=>(nomatch h),I.ok.hd,I.ok.frames,.inl rfl,λ b hb=>⟨Nat.ne_of_lt (fr b hb),λ x c e=>(f b hb).2.2.2.2.1 x c (c1 x c e)⟩,
  I.bs,Nat.le_trans I.ok.bsz I.sz,λ b o e hb=>?_,λ b hb hf=>?_,I.stack,I.stkFree⟩,
  rfl,I.bare,Un.kept hk,⟨m,hn,λ i x v e1 e2 e3=>?_⟩,cellH,I.hok.fresh (Nat.le_refl _),λ x c e=>I.freeC x c (c1 x c e),λ p hp=>absurd (show p∈([]:List (Addr×Obj)) from hp) (by simp),I.hok.kept hk,(Zwm l σ).trans S.nm.len⟩
 · have hx2:(relabel scope X.env).names.lookup x=some .cell\/(relabel scope X.env).names.lookup x=some .free:=hx
   have fin:∀ k,(relabel scope X.env).names.lookup x=some k->(k=.cell\/k=.free)->∃ c,cl.lookup x=some c:=λ k e hk=>by
    obtain ⟨k0,e0,q⟩:=Gi (names:=scope.names) (env:=X.env) (x:=x) (k:=k) e
    have hm:=PySem.mem_of_lookup e0
    have nc:=List.all_eq_true.mp S.nocell _ hm
    have hfree:k0=.free:=by
     rcases q with q | q
     · subst q
       rcases hk with z | z
       · subst z; simp at nc
       · exact z
     · exact q.1
    exact c2 _ hm hfree
   rcases hx2 with z | z
   · exact fin _ z (.inl rfl)
   · exact fin _ z (.inr rfl)
 · rcases (f b hb).2.2.2.1 with z | z
   · exact I.ok.noex b o e z
   · exact absurd (Nat.lt_of_lt_of_le (Heap.lt_size e) (Nat.le_trans I.ok.bsz z)) (Nat.lt_irrefl _)
 · rcases List.mem_cons.mp (I.stkSub b hf) with z | z
   · exact (f b hb).2.1 z
   · exact (f b hb).2.2.1 z
 · obtain ⟨k,g1,g2⟩:=Zwn e2
   obtain ⟨n1,n2,n3⟩:=S.nm.get e1 g1
   obtain ⟨mx,_,hl⟩:=I.loc
   have vis:Vis X.env.scope x:=.inr n2
   obtain ⟨u,r,lk⟩:=hl k x v n1 g2 vis
   refine ⟨u,r,?_⟩
   obtain ⟨kk,e4,e5⟩:=Zca (env:=X.env) n3
   obtain ⟨c,ec⟩:=c2 _ (PySem.mem_of_lookup n3) rfl
   have kf:(compEnvC scope cl s.heap.objs.size X.env).kindOf x=some .cell\/(compEnvC scope cl s.heap.objs.size X.env).kindOf x=some .free:=by
    rcases e5 with z | z
    · exact .inl (z ▸ e4)
    · exact .inr (z ▸ e4)
   refine .inr ⟨kf,c,ec,?_⟩
   rcases lk with ⟨k1,_⟩ | ⟨_,c',e',⟨o,ho,hd⟩⟩
   · have k1':X.env.scope.names.lookup x=some .local:=k1
     rcases n2 with z | z <;> (rw [z] at k1'; cases k1')
   · have ee:=c1 x c ec
     rw [e'] at ee
     have ee':c'=c:=Option.some.inj ee
     subst ee'
     exact ⟨o,hk _ o ho,hd⟩
theorem Zrj {C:Addr} {σ':St} {H':Hp} {s':Shared} (I:Inv X pins σ H s) (f:∀ b∈fp,FpOk X pins H b) (J:Inv (Q4 X N scope cl C s H fp) [] σ' H' s'):Inv X pins σ H' s' :=
 I.call' (ch:=fp) J.os J.base J.hok J.bare λ b hb=>⟨(f b hb).2.2.2.1,(f b hb).2.1,(f b hb).2.2.2.2.1,(f b hb).2.2.2.2.2⟩
theorem Zhr {σ2:St} {H':Hp} {s':Shared} {h'':Heap} (I:Inv X pins σ H s) (hf:H' s.heap.objs.size=none) (I':Inv X pins σ2 H' s') (sb:Heap.SameBut s.heap.objs.size s'.heap h''):Inv X pins σ2 H' { s' with heap:=h'' }:=by
 refine I'.turned (t':=s'.toks) (it:=s.heap.objs.size) (λ b o hb e=>(sb.2 b hb).trans e) hf (Nat.ne_of_gt I.lt) (.inr I.sz) (λ x c e z=>?_) λ p hp z=>?_
 · obtain ⟨v,q⟩:=I.cell x c e
   exact absurd q.lt (by rw [z]; exact Nat.lt_irrefl _)
 · exact absurd (Heap.lt_size (I.pin p hp).1) (by rw [z]; exact Nat.lt_irrefl _)
end
def Zls (ifs:List Expr) (env:Env):Sem Bool:=forIn ifs true λ c r=>if r=true then do let ok ← isTrue c env (eval c env); pure (ForInStep.yield ok) else pure (ForInStep.yield r)
abbrev NoX:Value->Shared->Prop:=λ _ _=>False
theorem Zw6 {prog:Program} {w:World} {A:Around} {R:Result->Shared->Prop} {s:Shared} {elt target iter:Expr} {ifs:List Expr} {scope:Scope} {pos:Pos} {it acc:Value} {env:Env} (Iv:Nat->Shared->Prop)
 (turn:∀ n s,Iv n s->wpAny (model prog w) A (pyNext it) (λ r s1=>match r with
  | none=>R (.ok .next) s1
  | some v=>wpAny (model prog w) A (letOwnedTupleGo target it v) (λ _ s2=>wpAny (model prog w) A (assign target env v) (λ _ s3=>wpAny (model prog w) A (Zls ifs env) (λ ok s4 =>
   if ok=true then wpAny (model prog w) A (eval elt env) (λ x s5=>wpAny (model prog w) A (call (.builtin "list.append") [acc,x]) (λ _ s6=>∃ m,m<n/\Iv m s6) NoX s5) NoX s4
   else ∃ m,m<n/\Iv m s4) NoX s3) NoX s2) NoX s1) NoX s)
 (n:Nat) (h:Iv n s):codeAny (model prog w) A (.compLoop (.ListComp elt [⟨target,iter,ifs,0⟩] scope pos) 0 it acc env) R s:=by
 refine codeAny_loop rfl Iv (λ n s hI=>?_) n h
 show wpAny (model prog w) A ((compTurn (.ListComp elt [⟨target,iter,ifs,0⟩] scope pos) 0 it acc env).onRaise λ x=>(noteFrame x env >>= λ _=>theTreesLotGoes x)) _ _ s
 refine wpAny_noted (wpAny_mono ?_ (λ _ _ q=>q) λ _ _ q=>False.elim q)
 rw [compTurn_list]
 refine wpAny_bind (wpAny_standAt (wpAny_bind (thn (turn n s hI) λ r s1 h1=>?_)))
 cases r with
 | none=>exact wpAny_pure h1
 | some v =>
   refine wpAny_bind (thn h1 λ _ s2 h2=>wpAny_bind (thn h2 λ _ s3 h3=>wpAny_bind (thn h3 λ ok s4 h4=>?_)))
   cases ok with
   | false=>exact wpAny_pure ⟨rfl,h4⟩
   | true=>exact wpAny_bind (wpAny_bind (thn h4 λ x s5 h5=>wpAny_bind (thn h5 λ _ s6 h6=>wpAny_pure (wpAny_pure ⟨rfl,h6⟩))))
def PIfs (X:Cx) (ifs:List Expr) (t:TT):Prop :=
 ∀ (pins:List (Addr×Obj)) (s:Shared) (σ:St) (H:Hp) (Q:Bool->Hp->Prop),Inv X pins σ H s->t σ H Q->wpAny (model X.prog X.w) X.A (Zls ifs X.env) (TP X pins σ Q) X.xe s
def Qa:TT:=λ _ H Q=>Q true H
theorem Xh {X:Cx}:PIfs X [] Qa:=λ _ _ _ H _ I h=>wpAny_pure ⟨H,I,h⟩
abbrev CompW:=Nat->Nat->List V->St->Hp->Prop
def Jt (J:It) (g:TG) (tc:TT) (te:TE) (D:Addr) (W:CompW) (Q:Hp->Prop):Prop :=
 ∀ i m ys σ H,W i m ys σ H->H D=some (.lst ys)/\((J.stop i H/\Q H)\/(J.go i H/\∃ (A:V->St->Hp->Prop) (B:St->Hp->Prop),
   (∀ v σ2 H4,A v σ2 H4->H4 D=some (.lst ys)/\ys.length<sizeLine/\∃ m',m'<m/\W (i+1) m' (ys++[v]) σ2 (upd H4 D (.lst (ys++[v]))))/\(∀ σ2 H3,B σ2 H3->∃ m',m'<m/\W (i+1) m' ys σ2 H3) /\
   ∀ x H',J.yld i H x H'->g x σ H' λ σ2 H2=>tc σ2 H2 λ b H3=>if b=true then te σ2 H3 λ v H4=>A v σ2 H4 else B σ2 H3))
def Xq (l:List (Option Nat)) (wi:TI) (g:TG) (tc:TT) (te:TE):TE:=λ σ H Q=>wi σ H λ J H1=>∀ D,H1 D=none->∃ W:CompW,(∃ m,W 0 m [] (X5 l σ) (upd H1 D (.lst [])))/\Jt J g tc te D W λ H'=>Q (.ref D) H'
section
variable {X:Cx} {tg elt iter:Expr} {ifs:List Expr} {N:List Str} {l:List (Option Nat)} {scope:Scope} {pos:Pos} {wi:TI} {g:TG} {tc:TT} {te:TE}
theorem Zlf {cl:List (Str×Addr)} {pins:List (Addr×Obj)} {σ:St} {H:Hp} {s:Shared} {J:It} {fp:List Addr} {it:Addr} {tn:Nat->Heap->Prop} {RR:Value->Addr->Result->Shared->Prop} {Q:Addr->Hp->Prop} {E:Value->Shared->Prop}
 (hc:X.calm=true) (S:CompScope X N l scope) (c1:∀ x c,cl.lookup x=some c->X.env.cells.lookup x=some c) (c2:∀ y∈scope.names,y.2=.free->∃ c,cl.lookup y.1=some c)
 (hg:∀ C s H ex,PG (Q4 X N scope cl C s H ex) tg g) (hi:∀ C s H ex,PIfs (Q4 X N scope cl C s H ex) ifs tc) (he:∀ C s H ex,PE (Q4 X N scope cl C s H ex) elt te)
 (I:Inv X pins σ H s) (T:Turn X.prog X.w X.K tg J fp it tn) (t0:tn 0 s.heap) (f:∀ b∈fp,FpOk X pins H b)
 (hW:∀ D,H D=none->∃ W:CompW,(∃ m,W 0 m [] (X5 l σ) (upd H D (.lst [])))/\Jt J g tc te D W (Q D))
 (hR:∀ D s0 H' s',Inv X pins σ (upd H D (.lst [])) s0->Inv X pins σ H' s'->H' s0.heap.objs.size=none->(∃ m,s'.heap.Ns s0.heap.objs.size m)->Q D H'->RR (.ref D) s0.heap.objs.size (.ok .next) s') :
 wpAny (model X.prog X.w) X.A (newList []) (λ acc s3=>wpAny (model X.prog X.w) X.A (newFunctionEnv scope X.env.globals cl [] X.env.qual none .none (some X.env)) (λ cenv s4 =>
  codeAny (model X.prog X.w) X.A (.compStart (.ListComp elt [⟨tg,iter,ifs,0⟩] scope pos) 0 (.ref it) acc { cenv with scope:=relabel scope X.env }) (RR acc cenv.locals) s4) E s3) E s:=by
 refine wpAny_newObj_type (wpAny_newFunctionEnv (λ y hy=>by have:=List.all_eq_true.mp S.nocell y hy; simpa using this) (λ y hy=>absurd hy (by simp)) (λ h4 hn4 sb4=>?_) S.kind)
 have kept3:∀ b u,s.heap.get? b=some u->(s.heap.push { cls:=.type "list",dict:=none,data:=.seq ([]:List Value).toArray }).get? b=some u:=λ b u e=>Heap.get?_push_of_some _ e
 have hD:H s.heap.objs.size=none:=I.hok.fresh (Nat.le_refl _)
 have I3:Inv X pins σ (upd H s.heap.objs.size (.lst [])) { s with heap:=s.heap.push { cls:=.type "list",dict:=none,data:=.seq ([]:List Value).toArray } } :=
  I.laid (t':=s.toks) kept3 (Nat.le_refl _) ⟨Nat.zero_le _,[],0,.nil,Heap.get?_push_size _ rfl⟩
 generalize hh3:s.heap.push { cls:=.type "list",dict:=none,data:=.seq ([]:List Value).toArray }=h3 at kept3 I3 hn4 sb4 ⊢
 have fpIn:∀ b∈fp,∃ o,s.heap.get? b=some o:=λ b hb=>let ⟨o,e,_⟩:=T.obj _ _ t0 b hb; ⟨o,e⟩
 have f3:∀ b∈fp,FpOk X pins (upd H s.heap.objs.size (.lst [])) b:=λ b hb=>by
  obtain ⟨o,e⟩:=fpIn b hb
  exact ⟨by rw [Z1 (Nat.ne_of_lt (Heap.lt_size e))]; exact (f b hb).1,(f b hb).2⟩
 have kept4:∀ b o,h3.get? b=some o->h4.get? b=some o:=λ b o e=>sb4.extBut b o (Nat.ne_of_lt (Heap.lt_size e)) (Heap.get?_push_of_some _ e)
 have J4:=Zqx S I3 c1 c2 f3 (λ b hb=>let ⟨o,e⟩:=fpIn b hb; ⟨o,kept3 b o e⟩) hn4 kept4 (s.toks+([]:List (Str×Value)).length)
 have t4:tn 0 h4:=T.keep _ _ _ t0 λ b _ o e=>kept4 b o (kept3 b o e)
 obtain ⟨W,⟨m0,w0⟩,step⟩:=hW _ hD
 have loop:∀ s4:Shared,s4={ s with heap:=h4,toks:=s.toks+([]:List (Str×Value)).length } ->
  codeAny (model X.prog X.w) X.A (.compLoop (.ListComp elt [⟨tg,iter,ifs,0⟩] scope pos) 0 (.ref it) (.ref s.heap.objs.size) (compEnvC scope cl h3.objs.size X.env)) (RR (.ref s.heap.objs.size) h3.objs.size) s4:=by
  rintro s4 rfl
  generalize hY:Q4 X N scope cl h3.objs.size { s with heap:=h3 } (upd H s.heap.objs.size (.lst [])) fp=Y at J4
  have eP:Y.prog=X.prog:=by rw [← hY]; rfl
  have ew:Y.w=X.w:=by rw [← hY]; rfl
  have eK:Y.K=X.K:=by rw [← hY]; rfl
  have ec:Y.calm=true:=by rw [← hY]; exact hc
  have eA:Y.A=X.A:=by rw [← hY]; rfl
  have ee:Y.env=compEnvC scope cl h3.objs.size X.env:=by rw [← hY]; rfl
  have ex:Y.xe=NoX:=by rw [← hY]; rfl
  have stat:∀ {H':Hp},(∀ b∈fp,H' b=none)->∀ b∈fp,FpOk Y [] H' b:=λ {H'} hn b hb=>by
   rw [← hY]
   obtain ⟨o,e⟩:=fpIn b hb
   refine ⟨hn b hb,Nat.ne_of_lt (Heap.lt_size (kept3 b o e)),λ z=>?_,.inl hb,λ x c q=>(f3 b hb).2.2.2.2.1 x c (c1 x c q),λ p hp=>absurd (show p∈([]:List (Addr×Obj)) from hp) (by simp)⟩
   rcases List.mem_cons.mp (I3.stkSub b z) with q | q
   · exact (f3 b hb).2.1 q
   · exact (f3 b hb).2.2.1 q
  refine Zw6 (λ n s'=>∃ i ys σ' H',Inv Y [] σ' H' s'/\tn i s'.heap/\(∀ b∈fp,H' b=none)/\W i n ys σ' H') ?_ m0 ⟨0,[],X5 l σ,_,J4,t4,λ b hb=>(f3 b hb).1,w0⟩
  rintro n s5 ⟨i,ys,σ5,H5,J5,t5,fr5,w5⟩
  obtain ⟨hDl,st⟩:=step i n ys σ5 H5 w5
  rw [← eP,← ew,← eA,← ee]
  rcases st with ⟨stop,q⟩ | ⟨go,NA,NB,hA,hB,nxt⟩
  · have d:=T.done Y eP ew eK ec i [] s5 σ5 H5 NoX J5 (stat fr5) t5 stop
    rw [← eP,← ew] at d
    refine thn d λ r s6 ⟨hr,J6⟩=>?_
    subst hr
    rw [← hY] at J6
    obtain ⟨m6,n6,_⟩:=J6.loc
    exact hR _ { s with heap:=h3 } H5 s6 I3 (Zrj I3 f3 J6) J6.free ⟨m6,n6⟩ q
  · have d:=T.item Y eP ew eK ec i [] s5 σ5 H5 NoX J5 (stat fr5) t5 go
    rw [← eP,← ew] at d
    refine thn d λ r s6 ⟨u,hr,h6⟩=>?_
    subst hr
    refine thn h6 λ _ s7 ⟨x,H7,J7,r7,y7,t7,fr7⟩=>?_
    have J7':=J7.pinned (stat fr7) (T.obj _ _ t7)
    have back:∀ {σ8:St} {H8:Hp} {s8:Shared},Inv Y ([]++Zcm fp s7.heap) σ8 H8 s8->tn (i+1) s8.heap/\(∀ b∈fp,H8 b=none):=λ {σ8 H8 s8} J8=>by
     refine ⟨T.keep _ _ _ t7 λ b hb o e=>(J8.pin (b,o) (List.mem_append_right _ (List.mem_append_right _ (Ww hb e)))).1,λ b hb=>?_⟩
     obtain ⟨o,e,_⟩:=T.obj _ _ t7 b hb
     exact (J8.pin (b,o) (List.mem_append_right _ (List.mem_append_right _ (Ww hb e)))).2.1
    have hg':PG Y tg g:=by rw [← hY]; exact hg _ _ _ _
    have hi':PIfs Y ifs tc:=by rw [← hY]; exact hi _ _ _ _
    have he':PE Y elt te:=by rw [← hY]; exact he _ _ _ _
    have a7:=hg' _ s7 σ5 H7 x u _ J7' r7 (nxt x H7 y7)
    rw [ex] at a7
    refine thn a7 λ _ s8 ⟨σ8,H8,J8,q8⟩=>?_
    have a8:=hi' _ s8 σ8 H8 _ J8 q8
    rw [ex] at a8
    refine thn a8 λ ok s9 ⟨H9,J9,q9⟩=>?_
    cases ok with
    | false =>
      have q9':NB σ8 H9:=by simpa using q9
      obtain ⟨m',hm,w9⟩:=hB _ _ q9'
      obtain ⟨t9,fr9⟩:=back J9
      show ∃ m,m<n/\_
      exact ⟨m',hm,i+1,ys,σ8,H9,J9.unpinned,t9,fr9,w9⟩
    | true =>
      rw [if_pos rfl] at q9
      show wpAny _ _ (eval elt Y.env) _ _ s9
      have a9:=he' _ s9 σ8 H9 _ J9 q9
      rw [ex] at a9
      refine thn a9 λ xv s10 ⟨v,H10,J10,r10,q10⟩=>?_
      obtain ⟨hD10,hz,m',hm,w10⟩:=hA _ _ _ q10
      have a10:=Ed _ s10 σ8 H10 (.ref s.heap.objs.size) [v] (.ref s.heap.objs.size) [xv] (λ _ H'=>H'=upd H10 s.heap.objs.size (.lst (ys++[v]))) J10 rfl (.cons r10 .nil) ⟨_,ys,v,rfl,rfl,hD10,hz,rfl⟩
      rw [ex] at a10
      refine thn a10 λ _ s11 ⟨_,H11,J11,_,e11⟩=>?_
      subst e11
      obtain ⟨t11,fr11⟩:=back J11
      exact ⟨m',hm,i+1,ys++[v],σ8,_,J11.unpinned,t11,fr11,w10⟩
 exact codeAny_compStart_list (loop _ rfl) (T.self _ 0 _ _ _ t4 (loop _ rfl))
theorem Zf3 {pins:List (Addr×Obj)} {σ:St} {H:Hp} {s:Shared} (S:CompScope X N l scope) (I:Inv X pins σ H s) :
 ∃ cl,closureFor scope X.env=pure cl/\(∀ x c,cl.lookup x=some c->X.env.cells.lookup x=some c)/\∀ y∈scope.names,y.2=.free->∃ c,cl.lookup y.1=some c:=by
 refine Zur λ y hy hf=>?_
 have q:=List.all_eq_true.mp S.fre y hy
 rw [hf] at q
 have q2:(X.env.scope.names.lookup y.1 == some .cell || X.env.scope.names.lookup y.1 == some .free)=true:=by simpa using q
 rw [Bool.or_eq_true] at q2
 rcases q2 with z | z
 · exact I.ok.has y.1 (.inl (show X.env.scope.names.lookup y.1=some .cell by simpa using z))
 · exact I.ok.has y.1 (.inr (show X.env.scope.names.lookup y.1=some .free by simpa using z))
theorem Zea (S:CompScope X N l scope):∀ y∈scope.names,y.2=.local->scope.names.lookup y.1=some .local:=λ y hy hl=>by
 have q:=List.all_eq_true.mp S.loc y hy
 rw [hl] at q
 simpa using q
theorem X4 (hc:X.calm=true) (S:CompScope X N l scope) (hw:PI X tg iter wi)
 (hg:∀ cl C s H ex,PG (Q4 X N scope cl C s H ex) tg g) (hi:∀ cl C s H ex,PIfs (Q4 X N scope cl C s H ex) ifs tc) (he:∀ cl C s H ex,PE (Q4 X N scope cl C s H ex) elt te)
 (hs:∀ x,foldedSetIterable iter X.env x=pure x:=by intro _; rfl):PE X (.ListComp elt [⟨tg,iter,ifs,0⟩] scope pos) (Xq l wi g tc te):=by
 intro pins s σ H Q I h
 obtain ⟨cl,e1,c1,c2⟩:=Zf3 S I
 rw [eval_ListComp]
 refine wpAny_comprehension_free (use:=none) rfl hs e1 S.kind (Zea S) (thn (hw pins s σ H _ I h) λ v s1 h1=>thn h1 λ itv s2 h2=>?_)
 obtain ⟨it,fp,tn,J,H2,e,I2,T,st2,f2,hW⟩:=h2
 subst e
 refine Zlf hc S c1 c2 (hg cl) (hi cl) (he cl) I2 T st2 f2 hW λ D s0 H' s' I0 I' hf hns q=>?_
 obtain ⟨m,hm⟩:=hns
 exact ⟨m,hm,λ h'' sb=>⟨.ref D,H',Zhr I0 hf I' sb,rfl,q⟩⟩
theorem Za0 {i:Nat} {x:Str} {pos' pos2:Pos} (hc:X.calm=true) (hN:X.N.Nodup) (hi':X.N[i]?=some x) (hx:X.env.scope.names.lookup x=some .local) (S:CompScope X N l scope) (hw:PI X tg iter wi)
 (hg:∀ cl C s H ex,PG (Q4 X N scope cl C s H ex) tg g) (hi:∀ cl C s H ex,PIfs (Q4 X N scope cl C s H ex) ifs tc) (he:∀ cl C s H ex,PE (Q4 X N scope cl C s H ex) elt te)
 (hsw:swapsWith (.ListComp elt [⟨tg,iter,ifs,0⟩] scope pos) (some (.Name x pos')) pos2.line X.env=pure true:=by rfl)
 (hs:∀ x,foldedSetIterable iter X.env x=pure x:=by intro _; rfl):PS X (.Assign [.Name x pos'] (.ListComp elt [⟨tg,iter,ifs,0⟩] scope pos) pos2) (Z6 (Xq l wi g tc te) (Zt i)):=by
 intro pins s σ H D I h
 obtain ⟨cl,e1,c1,c2⟩:=Zf3 S I
 rw [exec_Assign_Name_used _ _ _ _ hsw]
 refine wpAny_bind (wpAny_standAt (wpAny_bind ?_))
 show wpAny _ X.A (comprehension (.ListComp elt [⟨tg,iter,ifs,0⟩] scope pos) scope X.env _ (newList []) false (eval iter X.env) (some (assign (.Name x pos') X.env)) >>= λ _=>_) _ _ s
 refine wpAny_bind (thn (wpAny_comprehension_free (use:=some (assign (.Name x pos') X.env)) (Q:=λ _ s'=>SP X pins D .next s') rfl hs e1 S.kind (Zea S) (thn (hw pins s σ H _ I h) λ v s1 h1=>thn h1 λ itv s2 h2=>?_)) λ _ s' hq=>wpAny_pure (wpAny_pure hq))
 obtain ⟨it,fp,tn,J,H2,e,I2,T,st2,f2,hW⟩:=h2
 subst e
 refine Zlf hc S c1 c2 (hg cl) (hi cl) (he cl) I2 T st2 f2 hW λ L s0 H' s' I0 I' hf hns q=>?_
 obtain ⟨m,hm⟩:=hns
 show wpAny _ X.A (assign (.Name x pos') X.env (.ref L)) _ _ s'
 refine wpAny_assign_Name (Zgy I' hN hi' (.inl hx) (v:=.ref L) rfl (λ s2 I2 hsb=>?_) (.inr hx))
 obtain ⟨a,sb,ha⟩:=hsb
 have hne:s0.heap.objs.size≠a:=by
  rcases ha with z | z
  · rw [z]; exact Nat.ne_of_gt I0.lt
  · obtain ⟨v,cc⟩:=I0.cell x a z
    exact Nat.ne_of_gt cc.lt
 exact ⟨m,hm.sameBut sb hne,λ h'' sb2=>⟨_,H',Zhr I0 hf I2 sb2,q⟩⟩
end
theorem Zle {lo:Int} {n:Nat} {l:List (Option Nat)} {g:TG} {tc:TT} {te:TE} {σ:St} {H1:Hp} {Q:Hp->Prop} (D:Addr) (Pv:Nat->List V->St->Hp->Prop) (hn:n<=1000) (hy:∀ i ys σ H,Pv i ys σ H->ys.length<=i) (h0:Pv 0 [] (X5 l σ) (upd H1 D (.lst [])))
 (hs:∀ i ys σ H,i<n->Pv i ys σ H->H D=some (.lst ys)->g (.int (lo+i)) σ H λ σ2 H2=>tc σ2 H2 λ b H3 =>
  if b=true then te σ2 H3 λ v H4=>H4 D=some (.lst ys)/\Pv (i+1) (ys++[v]) σ2 (upd H4 D (.lst (ys++[v]))) else H3 D=some (.lst ys)/\Pv (i+1) ys σ2 H3)
 (hd:∀ ys σ H,Pv n ys σ H->H D=some (.lst ys)->Q H) :
 ∃ W:CompW,(∃ m,W 0 m [] (X5 l σ) (upd H1 D (.lst [])))/\Jt (Itr lo n) g tc te D W Q:=by
 refine ⟨λ i m ys σ H=>m=n-i/\i<=n/\H D=some (.lst ys)/\Pv i ys σ H,⟨n,by simp,Nat.zero_le _,Zr,h0⟩,?_⟩
 rintro i m ys σ H ⟨rfl,hi,hD,p⟩
 refine ⟨hD,?_⟩
 by_cases hlt:i<n
 · refine .inr ⟨hlt,λ v σ2 H4=>H4 D=some (.lst ys)/\Pv (i+1) (ys++[v]) σ2 (upd H4 D (.lst (ys++[v]))),λ σ2 H3=>H3 D=some (.lst ys)/\Pv (i+1) ys σ2 H3,λ v σ2 H4 q=>?_,λ σ2 H3 q=>⟨n-(i+1),by omega,rfl,hlt,q⟩,λ x H' y=>?_⟩
   · exact ⟨q.1,Wt (Nat.le_trans (hy _ _ _ _ p) (by omega)),n-(i+1),by omega,rfl,hlt,Zr,q.2⟩
   · obtain ⟨e,y⟩:=y
     subst e y
     exact hs i ys σ _ hlt p hD
 · have e:i=n:=by omega
   subst e
   exact .inl ⟨Nat.le_refl _,hd ys σ H p hD⟩
theorem Zjj {J:It} {l:List (Option Nat)} {g:TG} {tc:TT} {te:TE} {σ:St} {H1:Hp} {Q:Hp->Prop} (D:Addr) (xs:List V) (Pv:Nat->List V->St->Hp->Prop) (hn:xs.length<=1000) (hy:∀ i ys σ H,Pv i ys σ H->ys.length<=i)
 (hJ:∀ i ys σ H,Pv i ys σ H->H D=some (.lst ys)->(∀ x,xs[i]?=some x->J.go i H/\∀ y H',J.yld i H y H'->H'=H/\y=x)/\(xs.length<=i->J.stop i H)) (h0:Pv 0 [] (X5 l σ) (upd H1 D (.lst [])))
 (hs:∀ i x ys σ H,xs[i]?=some x->Pv i ys σ H->H D=some (.lst ys)->g x σ H λ σ2 H2=>tc σ2 H2 λ b H3 =>
  if b=true then te σ2 H3 λ v H4=>H4 D=some (.lst ys)/\Pv (i+1) (ys++[v]) σ2 (upd H4 D (.lst (ys++[v]))) else H3 D=some (.lst ys)/\Pv (i+1) ys σ2 H3)
 (hd:∀ ys σ H,Pv xs.length ys σ H->H D=some (.lst ys)->Q H) :
 ∃ W:CompW,(∃ m,W 0 m [] (X5 l σ) (upd H1 D (.lst [])))/\Jt J g tc te D W Q:=by
 refine ⟨λ i m ys σ H=>m=xs.length-i/\i<=xs.length/\H D=some (.lst ys)/\Pv i ys σ H,⟨xs.length,by simp,Nat.zero_le _,Zr,h0⟩,?_⟩
 rintro i m ys σ H ⟨rfl,hi,hD,p⟩
 refine ⟨hD,?_⟩
 by_cases hlt:i<xs.length
 · obtain ⟨hg,hyl⟩:=(hJ i ys σ H p hD).1 xs[i] (by simp [hlt])
   refine .inr ⟨hg,λ v σ2 H4=>H4 D=some (.lst ys)/\Pv (i+1) (ys++[v]) σ2 (upd H4 D (.lst (ys++[v]))),λ σ2 H3=>H3 D=some (.lst ys)/\Pv (i+1) ys σ2 H3,λ v σ2 H4 q=>?_,λ σ2 H3 q=>⟨xs.length-(i+1),by omega,rfl,hlt,q⟩,λ x H' y=>?_⟩
   · exact ⟨q.1,Wt (Nat.le_trans (hy _ _ _ _ p) (by omega)),xs.length-(i+1),by omega,rfl,hlt,Zr,q.2⟩
   · obtain ⟨e,e2⟩:=hyl x H' y
     subst e e2
     exact hs i _ ys σ _ (by simp [hlt]) p hD
 · have e:i=xs.length:=by omega
   subst e
   exact .inl ⟨(hJ _ ys σ H p hD).2 (Nat.le_refl _),hd ys σ H p hD⟩
theorem Z2q {K:Fq} {a:Addr} {xs:List V} {H:Hp} (hq:SqT K H a xs) (i:Nat) :
 (∀ x,xs[i]?=some x->(Itt K a).go i H/\∀ y H',(Itt K a).yld i H y H'->H'=H/\y=x)/\(xs.length<=i->(Itt K a).stop i H) :=
 ⟨λ x hx=>⟨⟨xs,x,hq,hx⟩,λ y H' h=>⟨h.1,by have:=h.2 xs hq; rw [hx] at this; exact (Option.some.inj this).symm⟩⟩,λ h=>⟨xs,hq,h⟩⟩
theorem Z2r {K:Fq} {a:Addr} {xs:List V} {H:Hp} (hq:SqL K H a xs) (i:Nat) :
 (∀ x,xs[i]?=some x->(Itl K a).go i H/\∀ y H',(Itl K a).yld i H y H'->H'=H/\y=x)/\(xs.length<=i->(Itl K a).stop i H) :=
 ⟨λ x hx=>⟨⟨xs,x,hq,hx⟩,λ y H' h=>⟨h.1,by have:=h.2 xs hq; rw [hx] at this; exact (Option.some.inj this).symm⟩⟩,λ h=>⟨xs,hq,h⟩⟩
end L2
namespace L2
open PySem PySem.Spec PyProof.Rows
section
variable {X:Cx}
theorem Z0i:OpR X (binaryOp .Mult) (rI IntMulOk λ i j=>.int (i*j)):=opI λ _ _ _ _ _ _ _ hc q=>mul_int q hc
def CDivB (i j:Int):Prop:=0<j/\j.natAbs.log2<9000
theorem CDivB.of {i j:Int} (h0:0<j) (h:j<2 ^ 9000):CDivB i j:=by
 refine ⟨h0,(Nat.log2_lt (by omega)).mpr ?_⟩
 have e:((j.natAbs:Nat):Int)=j:=by omega
 have h':((j.natAbs:Nat):Int)<((2 ^ 9000:Nat):Int):=by
  rw [e]
  rw [Int.natCast_pow]; exact h
 exact Int.ofNat_lt.mp h'
theorem Zx9:OpR X (binaryOp .FloorDiv) (rI CDivB λ i j=>.int (i / j)):=opI λ i j _ _ _ _ _ hc q =>
 floordiv_int (by have:=hc.1; omega) (by rw [Int.fdiv_eq_ediv_of_nonneg i (Int.le_of_lt hc.1)]; exact q) (.inl (PyProof.noPylong_of_log2 hc.2))
theorem Z09 {x:Int} {k:Nat} (h1:-(2 ^ k)<x) (h2:x<2 ^ k):Builtin.Int.intBits x<=k:=by
 unfold Builtin.Int.intBits
 split
 · exact Nat.zero_le _
 · rename_i hx
   have h0:x.natAbs≠0:=λ z=>hx (by simp; omega)
   have e2:((2 ^ k:Nat):Int)=(2:Int) ^ k:=by rw [Int.natCast_pow]; rfl
   have hn:x.natAbs<2 ^ k:=by
    have:((x.natAbs:Nat):Int)<((2 ^ k:Nat):Int):=by rw [e2]; omega
    exact Int.ofNat_lt.mp this
   have:=(Nat.log2_lt h0).mpr hn
   omega
theorem Inv.bigM {pins:List (Addr×Obj)} {σ:St} {H:Hp} {s:Shared} (I:Inv X pins σ H s):sysModules<s.heap.objs.size :=
 Nat.lt_trans (by decide) (I.mod.glob.keeps I.bk).lt
def Ztq:TE:=λ _ H Q=>∀ p,H p=none->Q (.ref p) (upd H p (.dK []))
theorem Z0b {pos:Pos}:PE X (.Dict [] [] pos) Ztq:=λ pins s σ H Q I h =>
 wpAny_Dict_empty ⟨.ref s.heap.objs.size,_,I.laid (a:=s.heap.objs.size) (o:=.dK []) (t':=s.toks) (λ _ _ q=>Heap.get?_push_of_some _ q) (Nat.le_refl _)
  ⟨Nat.zero_le _,beq_eq_false_iff_ne.mpr (Ne.symm (Nat.ne_of_lt I.bigM)),[],.nil,Heap.DictOf.new s.heap⟩,rfl,h _ (I.hok.fresh (Nat.le_refl _))⟩
def SqA (K:Fq) (H:Hp) (a:Addr) (xs:List V):Prop:=SqL K H a xs\/SqT K H a xs
theorem Ze3 {pins:List (Addr×Obj)} {σ:St} {H:Hp} {s:Shared} {a:Addr} {xs:List V} {A:Around} {E:Value->Shared->Prop} {Q:Value->Shared->Prop} (hA:A.handled=none) (I:Inv X pins σ H s) (h:SqA X.K H a xs)
 (hq:∀ (its:List Value) (It:Addr) (fp wr:List Addr) (St:Nat->Heap->Prop) (s2:Shared),Vals xs its->Walks X.prog X.w A It fp wr its.length (λ i v=>its.toArray[i]?=some v) St->St 0 s2.heap->(∀ b∈fp,b<s2.heap.objs.size) ->
  (∀ h' tk,(∀ b o,b ∉ wr->s2.heap.get? b=some o->h'.get? b=some o)->Inv X pins σ H { s2 with heap:=h',toks:=tk })->Q (.ref It) s2) :
 wpAny (model X.prog X.w) A (pyIter (.ref a)) Q E s:=by
 rcases h with h | h
 · obtain ⟨its,rv,p,hz⟩:=I.list h
   have pl:=p.isList
   have hlt:a<s.heap.objs.size:=by obtain ⟨_,e,_⟩:=id pl; exact Heap.lt_size e
   refine wpAny_pyIter_list pl (hq its s.heap.objs.size _ _ _ { s with heap:=s.heap.push _ } rv (show Walks X.prog X.w A s.heap.objs.size _ _ its.toArray.size _ _ from Walks.list hA s.heap.objs.size a (Nat.ne_of_lt hlt) its.toArray) ⟨⟨_,Heap.get?_push_size _ rfl,rfl,rfl⟩,pl.push _⟩ (λ b hb=>?_) λ h' tk k=>?_)
   · show b<(s.heap.push _).objs.size
     rw [Heap.size_push]
     rcases List.mem_cons.mp hb with e | hb
     · rw [e]; exact Nat.lt_succ_self _
     · rw [List.mem_singleton.mp hb]; exact Nat.lt_succ_of_lt hlt
   · refine I.kept λ b o e=>k b o (λ z=>?_) (Heap.get?_push_of_some _ e)
     rw [List.mem_singleton.mp z] at e
     exact absurd (Heap.lt_size e) (Nat.lt_irrefl _)
 · obtain ⟨its,rv,p,hz⟩:=I.tuple h
   have pl:s.heap.IsTuple a its.toArray:=p
   have hlt:a<s.heap.objs.size:=by obtain ⟨_,e,_⟩:=id pl; exact Heap.lt_size e
   refine wpAny_pyIter_tuple pl (hq its s.heap.objs.size _ _ _ { s with heap:=s.heap.push _ } rv (show Walks X.prog X.w A s.heap.objs.size _ _ its.toArray.size _ _ from Walks.tuple hA s.heap.objs.size a (Nat.ne_of_lt hlt) its.toArray) ⟨⟨_,Heap.get?_push_size _ rfl,rfl,rfl⟩,?_⟩ (λ b hb=>?_) λ h' tk k=>?_)
   · obtain ⟨o,e,r⟩:=id pl
     exact ⟨o,Heap.get?_push_of_some _ e,r⟩
   · show b<(s.heap.push _).objs.size
     rw [Heap.size_push]
     rcases List.mem_cons.mp hb with e | hb
     · rw [e]; exact Nat.lt_succ_self _
     · rw [List.mem_singleton.mp hb]; exact Nat.lt_succ_of_lt hlt
   · refine I.kept λ b o e=>k b o (λ z=>?_) (Heap.get?_push_of_some _ e)
     rw [List.mem_singleton.mp z] at e
     exact absurd (Heap.lt_size e) (Nat.lt_irrefl _)
theorem Znf (ns:List Int):∀ k,k<=ns.length->preSum (λ i=>ns.getD i 0) k=(ns.take k).sum
 | 0,_=>by simp [preSum]
 | k+1,h=>by
   have e:=Znf ns k (by omega)
   show preSum _ k+ns.getD k 0=_
   rw [e,List.take_succ_eq_append_getElem (by omega:k<ns.length),List.sum_append]
   simp [List.getD,(by omega:k<ns.length)]
theorem Zmr {ns:List Int} {its:List Value} (rv:Vals (ns.map V.int) its) {i:Nat} {v:Value} (h:its[i]?=some v):∃ t,v=.int (ns.getD i 0) t:=by
 have hl:=rv.length
 rw [List.length_map] at hl
 have hi:i<its.length:=(List.getElem?_eq_some_iff.mp h).1
 have hx:(ns.map V.int)[i]?=some (V.int (ns.getD i 0)):=by
  rw [List.getElem?_map,List.getD,List.getElem?_eq_getElem (by omega)]
  rfl
 obtain ⟨u,e1,t,e2⟩:=rv.get hx
 rw [h] at e1
 cases e1
 exact ⟨t,e2⟩
theorem Zxg {bs:List Bool} {its:List Value} (rv:Vals (bs.map V.bl) its) {i:Nat} {v:Value} (h:its[i]?=some v):v=.bool (bs.getD i false):=by
 have hl:=rv.length
 rw [List.length_map] at hl
 have hi:i<its.length:=(List.getElem?_eq_some_iff.mp h).1
 have hx:(bs.map V.bl)[i]?=some (V.bl (bs.getD i false)):=by
  rw [List.getElem?_map,List.getD,List.getElem?_eq_getElem (by omega)]
  rfl
 obtain ⟨u,e1,e2⟩:=rv.get hx
 rw [h] at e1
 cases e1
 exact e2
theorem Zw8 (hc:X.calm=true):CallR X (.builtin "sum") (λ xs H Q=>∃ (p:Addr) (ns:List Int),xs=[.ref p]/\SqA X.K H p (ns.map V.int)/\Q (.int ns.sum) H):=by
 intro pins s σ H xs us Q I r h
 obtain ⟨p,ns,rfl,hs,q⟩:=h
 obtain ⟨u,rfl,ru⟩:=U4 r
 cases ru
 refine call_sum_walkG (Ze3 (I.ok.hd hc) I hs λ its It fp wr St s2 rv W st hfp fin=>?_)
 refine ⟨It,fp,wr,its.length,_,St,λ i=>ns.getD i 0,rfl,W,st,hfp,λ i v hv=>Zmr rv (by simpa using hv),λ h' tk t' k=>⟨.int ns.sum,H,fin h' tk k,⟨t',?_⟩,q⟩⟩
 have hl:=rv.length
 rw [List.length_map] at hl
 rw [Znf ns its.length (by omega),← hl,List.take_length]
theorem Zvn (bs:List Bool):(List.range bs.length).all (λ i=>bs.getD i false)=bs.all id:=by
 rw [Bool.eq_iff_iff,List.all_eq_true,List.all_eq_true]
 constructor
 · intro h x hx
   obtain ⟨i,hi,e⟩:=List.mem_iff_getElem.mp hx
   have:=h i (List.mem_range.mpr hi)
   rw [List.getD,List.getElem?_eq_getElem hi] at this
   rw [← e]; exact this
 · intro h i hi
   have hi':=List.mem_range.mp hi
   rw [List.getD,List.getElem?_eq_getElem hi']
   exact h _ (List.getElem_mem hi')
theorem Zvm (bs:List Bool):(List.range bs.length).any (λ i=>bs.getD i false)=bs.any id:=by
 rw [Bool.eq_iff_iff,List.any_eq_true,List.any_eq_true]
 constructor
 · rintro ⟨i,hi,h⟩
   have hi':=List.mem_range.mp hi
   rw [List.getD,List.getElem?_eq_getElem hi'] at h
   exact ⟨_,List.getElem_mem hi',h⟩
 · rintro ⟨x,hx,h⟩
   obtain ⟨i,hi,e⟩:=List.mem_iff_getElem.mp hx
   refine ⟨i,List.mem_range.mpr hi,?_⟩
   rw [List.getD,List.getElem?_eq_getElem hi]
   show bs[i]=true
   rw [e]; exact h
theorem Zxd (hc:X.calm=true):CallR X (.builtin "all") (λ xs H Q=>∃ (p:Addr) (bs:List Bool),xs=[.ref p]/\SqA X.K H p (bs.map V.bl)/\Q (.bl (bs.all id)) H):=by
 intro pins s σ H xs us Q I r h
 obtain ⟨p,bs,rfl,hs,q⟩:=h
 obtain ⟨u,rfl,ru⟩:=U4 r
 cases ru
 refine call_all_walk (Ze3 (I.ok.hd hc) I hs λ its It fp wr St s2 rv W st hfp fin=>?_)
 refine ⟨It,fp,wr,its.length,_,St,λ i=>bs.getD i false,rfl,W,st,λ i v s3 Q3 E3 hv h3=>?_,λ h' tk k=>⟨.bl (bs.all id),H,fin h' tk k,?_,q⟩⟩
 · have e:=Zxg rv (show its[i]?=some v by simpa using hv)
   rw [e]; exact wpAny_truthy_bool h3
 · have hl:=rv.length
   rw [List.length_map] at hl
   show Value.bool _=Value.bool _
   rw [← hl,Zvn]
theorem Zxc (hc:X.calm=true):CallR X (.builtin "any") (λ xs H Q=>∃ (p:Addr) (bs:List Bool),xs=[.ref p]/\SqA X.K H p (bs.map V.bl)/\Q (.bl (bs.any id)) H):=by
 intro pins s σ H xs us Q I r h
 obtain ⟨p,bs,rfl,hs,q⟩:=h
 obtain ⟨u,rfl,ru⟩:=U4 r
 cases ru
 refine call_any_walk (Ze3 (I.ok.hd hc) I hs λ its It fp wr St s2 rv W st hfp fin=>?_)
 refine ⟨It,fp,wr,its.length,_,St,λ i=>bs.getD i false,rfl,W,st,λ i v s3 Q3 E3 hv h3=>?_,λ h' tk k=>⟨.bl (bs.any id),H,fin h' tk k,?_,q⟩⟩
 · have e:=Zxg rv (show its[i]?=some v by simpa using hv)
   rw [e]; exact wpAny_truthy_bool h3
 · have hl:=rv.length
   rw [List.length_map] at hl
   show Value.bool _=Value.bool _
   rw [← hl,Zvm]
theorem Zjd {ns:List Int} {i:Nat} (h:i<ns.length):ns.getD i 0∈ns:=by
 rw [List.getD,List.getElem?_eq_getElem h]
 exact List.getElem_mem _
theorem Zlp (ns:List Int):∀ k,argBest (λ i j=>decide (ns.getD i 0<ns.getD j 0)) k<=k/\∀ j,j<=k->ns.getD (argBest (λ i j=>decide (ns.getD i 0<ns.getD j 0)) k) 0<=ns.getD j 0
 | 0=>⟨Nat.le_refl _,λ j hj=>by have e:j=0:=by omega
                                rw [e]; exact Int.le_refl _⟩
 | k+1=>by
   obtain ⟨h1,h2⟩:=Zlp ns k
   show (if (decide _)=true then k+1 else _)<=k+1/\∀ j,j<=k+1->ns.getD (if (decide _)=true then k+1 else _) 0<=_
   split
   · rename_i c
     have c':=of_decide_eq_true c
     refine ⟨Nat.le_refl _,λ j hj=>?_⟩
     by_cases e:j=k+1
     · rw [e]; exact Int.le_refl _
     · exact Int.le_trans (Int.le_of_lt c') (h2 j (by omega))
   · rename_i c
     have c':¬ ns.getD (k+1) 0<_:=λ z=>c (decide_eq_true z)
     refine ⟨Nat.le_succ_of_le h1,λ j hj=>?_⟩
     by_cases e:j=k+1
     · rw [e]; exact Int.not_lt.mp c'
     · exact h2 j (by omega)
theorem Zw9 (hc:X.calm=true):CallR X (.builtin "min") (λ xs H Q=>∃ (p:Addr) (ns:List Int),xs=[.ref p]/\SqA X.K H p (ns.map V.int)/\ns≠[]/\∀ m,m∈ns->(∀ y∈ns,m<=y)->Q (.int m) H):=by
 intro pins s σ H xs us Q I r h
 obtain ⟨p,ns,rfl,hs,ne,q⟩:=h
 obtain ⟨u,rfl,ru⟩:=U4 r
 cases ru
 have hpos:0<ns.length:=List.length_pos_iff.mpr ne
 refine call_min_walk (Ze3 (I.ok.hd hc) I hs λ its It fp wr St s2 rv W st hfp fin=>?_)
 have hl:=rv.length
 rw [List.length_map] at hl
 refine ⟨It,fp,wr,its.length,_,St,λ i j=>decide (ns.getD i 0<ns.getD j 0),rfl,W,st,hfp,by omega,CmpOf.ints_lt (λ i=>ns.getD i 0) (λ i v hv=>Zmr rv (by simpa using hv)),λ v h' tk hv k=>?_⟩
 obtain ⟨t,e⟩:=Zmr rv (by rw [← List.getElem?_toArray]; exact hv)
 obtain ⟨b1,b2⟩:=Zlp ns (its.length-1)
 refine ⟨.int _,H,fin h' tk k,⟨t,e⟩,q _ ?_ λ y hy=>?_⟩
 · exact Zjd (by omega)
 · obtain ⟨j,hj,ej⟩:=List.mem_iff_getElem.mp hy
   have:=b2 j (by omega)
   rw [show ns.getD j 0=y by rw [List.getD,List.getElem?_eq_getElem hj]; exact ej] at this
   exact this
end
end L2
namespace L2
open PySem PySem.Spec PyProof.Rows
def Fn (P:Program) (w:World) (K:Fq) (mg:Str->Option Value) (base:Heap) (CX:CXT) (x:Str) (k:Nat) (ps:List Str) (sp:Sp):Prop :=
 ∃ f fd,FnOk P w K mg base CX k f fd ps sp/\mg x=some (.ref f)/\PySem.W.keepIn K (.ref f)=true/\Binds K fd ps []
def Df (K:Fq) (mg:Str->Option Value) (x:Str) (st:Stmt):Prop:=∃ f fd,Fun K x x st f fd/\mg x=some (.ref f)
theorem Zuo {K:Fq} {mg:Str->Option Value} {h:Heap} {x:Str} {st:Stmt} {f:Addr} {oc:Value} {od an:Option Addr} {osl:Array (Option Value)} {kV doc pm cdv ct:Value} (X:K.In h) (G:h.Ns mainGlobals mg)
 (a:PySem.W.nsIn K mainGlobals x=some (some (.ref f))) (l:K.lookup f=some ⟨oc,od,.func (PySem.W.fnOf x x (Qy st) (Xw st) (Zq st) .none kV doc pm an cdv ct),osl⟩)
 (c:PySem.W.codeIn K cdv x=true) (k:PySem.W.keepIn K (.ref f)=true):Df K mg x st:=⟨f,_,Zwr l c k,PySem.W.mg_of X G a⟩
section
variable {P:Program} {w:World} {K:Fq} {mg:Str->Option Value} {base:Heap}
theorem Df.to {CX:CXT} {x:Str} {st:Stmt} {ps:List Str} {k:Nat} {sp:Sp} (D:Df K mg x st) (h:∀ {f:Addr} {fd:FuncData},Fun K x x st f fd->FnOk P w K mg base CX k f fd ps sp)
 (hb:∀ (kV doc pm:Value) (an:Option Addr) (cdv ct:Value) (us:List Value),us.length=ps.length->bindArgs (PySem.W.fnOf x x (Qy st) (Xw st) (Zq st) .none kV doc pm an cdv ct) ⟨us,[]⟩=pure (ps.zip us)):Fn P w K mg base CX x k ps sp:=by
 obtain ⟨f,fd,F,hm⟩:=D
 exact ⟨f,fd,h F,hm,F.kp,F.binds hb⟩
theorem Fun.bind1 {x p:Str} {st:Stmt} {f:Addr} {fd:FuncData} (F:Fun K x x st f fd)
 (hb:∀ (kV doc pm:Value) (an:Option Addr) (cdv ct:Value) (us:List Value),us.length=[p].length->bindArgs (PySem.W.fnOf x x (Qy st) (Xw st) (Zq st) .none kV doc pm an cdv ct) ⟨us,[]⟩=pure ([p].zip us))
 (s:Shared) (u:Value):BindsTo s fd ⟨[u],[]⟩ [(p,u)]:=by
 obtain ⟨oc,od,kV,doc,pm,an,cdv,ct,osl,rfl,lk,hcd⟩:=F.ex
 exact .of_eq (hb kV doc pm an cdv ct [u] rfl)
end
def sp1 (f:V->Hp->VK->XK->Prop):Sp:=λ vs H Q E=>∃ a,vs=[a]/\f a H Q E
def sp2 (f:V->V->Hp->VK->XK->Prop):Sp:=λ vs H Q E=>∃ a b,vs=[a,b]/\f a b H Q E
def sp3 (f:V->V->V->Hp->VK->XK->Prop):Sp:=λ vs H Q E=>∃ a b c,vs=[a,b,c]/\f a b c H Q E
def sp4 (f:V->V->V->V->Hp->VK->XK->Prop):Sp:=λ vs H Q E=>∃ a b c d,vs=[a,b,c,d]/\f a b c d H Q E
def sp5 (f:V->V->V->V->V->Hp->VK->XK->Prop):Sp:=λ vs H Q E=>∃ a b c d e,vs=[a,b,c,d,e]/\f a b c d e H Q E
theorem Yr {f} {vs:List V} {H Q E} (h:sp1 f vs H Q E):vs.length=1:=by obtain ⟨_,rfl,_⟩:=h; rfl
theorem Q5 {f} {vs:List V} {H Q E} (h:sp2 f vs H Q E):vs.length=2:=by obtain ⟨_,_,rfl,_⟩:=h; rfl
theorem Jx {f} {vs:List V} {H Q E} (h:sp3 f vs H Q E):vs.length=3:=by obtain ⟨_,_,_,rfl,_⟩:=h; rfl
theorem Zsn {f} {vs:List V} {H Q E} (h:sp4 f vs H Q E):vs.length=4:=by obtain ⟨_,_,_,_,rfl,_⟩:=h; rfl
theorem Zzz {f} {vs:List V} {H Q E} (h:sp5 f vs H Q E):vs.length=5:=by obtain ⟨_,_,_,_,_,rfl,_⟩:=h; rfl
def Yp:Expr->Bool
 | .Starred _ _=>true
 | _=>false
theorem Yq {e:Expr} {es:List Expr} {env:Env} (h:Yp e=false):starEach (e::es) env=(false,eval e env)::starEach es env:=by
 cases e <;> first | rfl | (cases h)
theorem Wf {pos:Pos} {env:Env}:∀ {es:List Expr},es.all (λ e=>!Yp e)=true->(backTo pos (starEach es env)).any (·.1)=false
 | [],_=>rfl
 | e::es,h=>by
   rw [List.all_cons,Bool.and_eq_true] at h
   rw [Yq (by simpa using h.1)]
   show (false || (backTo pos (starEach es env)).any (·.1))=false
   rw [Wf h.2]; rfl
theorem Zpl {pos:Pos} {env:Env} {e:Expr} (h:Yp e=false):((backTo pos (starEach [e] env)).all (λ x=>!x.1) && (backToKw pos (keywordEach [] env)).all (λ x=>x.1.isSome)
 && decide ([e].length+([]:List Keyword).length+(if ([]:List Keyword).isEmpty then 0 else 1)<30))=true:=by
 rw [Yq h]
 rfl
section
variable {X:Cx} {CX:CXT} {k:Nat} {x:Str} {ps:List Str} {sp:Sp} {E:XK} {p pos:Pos} {e:Expr} {es:List Expr} {te:TE} {t:TA}
theorem Z31 (ha:PE X e te) (hr:PA X es t) (h:Yp e=false:=by rfl):PA X (e::es) (Za te t):=Z0g ha hr (Yq h)
theorem Z3e (G:Fn X.prog X.w X.K X.mg X.base CX x k ps sp) (hr:Room k X.A) (hg:Gl X x) (hx:Passes CX X E) (ha:PA X (e::es) t)
 (hdb:(x == ("__debug__":Str))=false:=by decide) (he:Yp e=false:=by rfl) (hpl:es.all (λ e=>!Yp e)=true:=by rfl) :
 PE X (.Call (.Name x p) (e::es) [] pos) (Z7 sp [] E t):=by
 obtain ⟨f,fd,F,hm,hk,hb⟩:=G
 exact Z0e F hr hg hm hk hb .nil hx ha hdb (Yq he) (Wf hpl)
theorem Z3f {id:String} {r:List V->Hp->VK->Prop} (hc:CallR X (.builtin id) r) (hg:Gl X x) (hm:X.mg x=none) (hv:bootBuiltins x=some (.builtin id)) (ha:PA X (e::es) t) (hn:x≠"__name__":=by decide) (hdb:(x == ("__debug__":Str))=false:=by decide)
 (he:Yp e=false:=by rfl) (hpl:es.all (λ e=>!Yp e)=true:=by rfl):PE X (.Call (.Name x p) (e::es) [] pos) (tCB r t):=Zx8 hc hg hm hv ha hn hdb (Yq he) (Wf hpl)
theorem Z15 {T:String} {r:List V->Hp->VK->Prop} (hc:CallR X (.type T) r) (hg:Gl X x) (hm:X.mg x=none) (hv:bootBuiltins x=some (.type T)) (ha:PA X (e::es) t) (hn:x≠"__name__":=by decide) (hdb:(x == ("__debug__":Str))=false:=by decide)
 (he:Yp e=false:=by rfl) (hpl:es.all (λ e=>!Yp e)=true:=by rfl):PE X (.Call (.Name x p) (e::es) [] pos) (tCB r t):=Zvv hc hg hm hv ha hn hdb (Yq he) (Wf hpl)
theorem Z16 {o:Expr} {to:TE} {name:Str} {apos cpos:Pos} {T id:String} {r:V->List V->Hp->VK->Prop} (pa:PlainAttrs T) (slot:Slot T name id) (hty:typeOf (.builtin id)=pure (.type "method_descriptor")) (hm:MtR X id r) (ho:PE X o to) (ha:PA X [e] t)
 (he:Yp e=false:=by rfl) (hbase:attributeBase o name X.env (eval o X.env)=eval o X.env:=by rfl) (hline:(apos.endLine == cpos.line)=true:=by rfl):PE X (.Call (.Attribute o name apos) [e] [] cpos) (tBM X.K T r to t) :=
 Zy6 pa slot hty hm ho ha hbase (Zpl he) hline (Yq he) rfl
end
theorem Yz:bootBuiltins "len"=some (.builtin "len"):=by decide +kernel
theorem Zlk:bootBuiltins "sum"=some (.builtin "sum"):=by decide +kernel
theorem Zct:bootBuiltins "all"=some (.builtin "all"):=by decide +kernel
theorem Z2y:bootBuiltins "any"=some (.builtin "any"):=by decide +kernel
theorem Z2x:bootBuiltins "min"=some (.builtin "min"):=by decide +kernel
theorem Xz:bootBuiltins "isinstance"=some (.builtin "isinstance"):=by decide +kernel
theorem U0:bootBuiltins "tuple"=some (.type "tuple"):=by decide +kernel
theorem Z07:bootBuiltins "list"=some (.type "list"):=by decide +kernel
theorem Zcs:bootBuiltins "int"=some (.type "int"):=by decide +kernel
theorem Z08:bootBuiltins "bool"=some (.type "bool"):=by decide +kernel
theorem Zhs:bootBuiltins "str"=some (.type "str"):=by decide +kernel
theorem Zoq:bootBuiltins "ValueError"=some (.type "ValueError"):=by decide +kernel
section
variable {X:Cx} {pos:Pos}
theorem Gx {x:Str} {i:Int} (h:∃ t,X.mg x=some (.int i t)) (hg:Gl X x:=by rfl) (hd:(x == ("__debug__":Str))=false:=by decide):PE X (.Name x pos) (tC (.int i)):=by
 obtain ⟨t,h⟩:=h
 exact Zmp hg h ⟨t,rfl⟩ hd
theorem Zmo {x y:Str} (h:∃ t,X.mg x=some (.str y t)) (hg:Gl X x:=by rfl) (hd:(x == ("__debug__":Str))=false:=by decide):PE X (.Name x pos) (tC (.str y)):=by
 obtain ⟨t,h⟩:=h
 exact Zmp hg h ⟨t,rfl⟩ hd
theorem Zkm {x:Str} {T:String} (hm:X.mg x=none) (hv:bootBuiltins x=some (.type T)) (hg:Gl X x:=by rfl) (hn:x≠"__name__":=by decide) (hd:(x == ("__debug__":Str))=false:=by decide):PE X (.Name x pos) (tC (.ty T)) :=
 Z0f hg hm hv rfl hn hd
theorem Ws {a b r:Int} {i j:Nat} {p q:Pos} (e:a ^ b.toNat=r) (h0:0<=b) (h1:b<=1000000) (h2:a.natAbs<2 ^ 64):PE X (.BinOp (.Constant (.int a) i p) .Pow (.Constant (.int b) j q) pos) (tC (.int r)):=by
 intro pins s σ H Q I h
 exact Zo Z2d Zj Zj pins s σ H Q I ⟨a,b,rfl,rfl,⟨h0,h1,h2⟩,by show Q (.int (a ^ b.toNat)) H; rw [e]; exact h⟩
def Ua (K:Fq) (t:TE):TT:=λ σ H Q=>t σ H λ x H'=>∃ k,TruV K x H' k/\Q k H'
theorem Wd {a:Expr} {ta:TE} (ha:PE X a ta) (he:∀ whole,isTrue a X.env whole=(do let v ← whole; standAt a.pos; holding [v] (truthy v))):PT X a (Ua X.K ta):=Zx1 ha he
end
mutual
def Rep (H:Hp):V->PyData->Prop
 | v,.none=>v=.non
 | v,.bool b=>v=.bl b
 | v,.int i=>v=.int i
 | v,.str x=>v=.str x
 | v,.list ds=>∃ a xs,v=.ref a/\H a=some (.lst xs)/\Reps H xs ds
 | v,.tuple ds=>∃ a xs,v=.ref a/\H a=some (.tup xs)/\Reps H xs ds
 | v,.dict kvs=>kvs=[]/\∃ a,v=.ref a/\H a=some (.dK [])
def Reps (H:Hp):List V->List PyData->Prop
 | xs,[]=>xs=[]
 | xs,d::ds=>∃ x r,xs=x::r/\Rep H x d/\Reps H r ds
end
def Tu (H H':Hp):Prop:=∀ b xs,H b=some (.tup xs)->H' b=some (.tup xs)
theorem Same.tu {H H':Hp} (e:Same H H'):Tu H H':=λ b xs h=>e b _ h
theorem Tu.trans {H H1 H2:Hp} (a:Tu H H1) (b:Tu H1 H2):Tu H H2:=λ c o h=>b c o (a c o h)
theorem Tu.put {H:Hp} {p:Addr} {xs ys:List V} (h:H p=some (.lst xs)):Tu H (upd H p (.lst ys)):=λ b zs e=>by
 rw [Z1 (λ z=>by subst z; rw [h] at e; cases e)]; exact e
mutual
def noL:PyData->Bool
 | .none | .bool _ | .int _ | .str _=>true
 | .tuple ds=>noLs ds
 | .list _ | .dict _=>false
def noLs:List PyData->Bool
 | []=>true
 | d::ds=>noL d && noLs ds
end
mutual
theorem Rep.mono {H H':Hp} (e:Same H H'):∀ (d:PyData) (v:V),Rep H v d->Rep H' v d
 | .none,v,h=>by unfold Rep at h ⊢; exact h
 | .bool b,v,h=>by unfold Rep at h ⊢; exact h
 | .int i,v,h=>by unfold Rep at h ⊢; exact h
 | .str x,v,h=>by unfold Rep at h ⊢; exact h
 | .list ds,v,h=>by
   unfold Rep at h ⊢
   obtain ⟨a,xs,r,q,z⟩:=h
   exact ⟨a,xs,r,e _ _ q,Reps.mono e ds xs z⟩
 | .tuple ds,v,h=>by
   unfold Rep at h ⊢
   obtain ⟨a,xs,r,q,z⟩:=h
   exact ⟨a,xs,r,e _ _ q,Reps.mono e ds xs z⟩
 | .dict _,v,h=>by
   unfold Rep at h ⊢
   obtain ⟨z,a,r,q⟩:=h
   exact ⟨z,a,r,e _ _ q⟩
theorem Reps.mono {H H':Hp} (e:Same H H'):∀ (ds:List PyData) (xs:List V),Reps H xs ds->Reps H' xs ds
 | [],xs,h=>by unfold Reps at h ⊢; exact h
 | d::ds,xs,h=>by
   unfold Reps at h ⊢
   obtain ⟨x,r,q,z,y⟩:=h
   exact ⟨x,r,q,Rep.mono e d x z,Reps.mono e ds r y⟩
end
mutual
theorem Rep.tu {H H':Hp} (e:Tu H H'):∀ (d:PyData) (v:V),noL d=true->Rep H v d->Rep H' v d
 | .none,v,_,h=>by unfold Rep at h ⊢; exact h
 | .bool b,v,_,h=>by unfold Rep at h ⊢; exact h
 | .int i,v,_,h=>by unfold Rep at h ⊢; exact h
 | .str x,v,_,h=>by unfold Rep at h ⊢; exact h
 | .list ds,v,n,h=>by unfold noL at n; cases n
 | .tuple ds,v,n,h=>by
   unfold Rep at h ⊢
   unfold noL at n
   obtain ⟨a,xs,r,q,z⟩:=h
   exact ⟨a,xs,r,e _ _ q,Reps.tu e ds xs n z⟩
 | .dict _,v,n,h=>by unfold noL at n; cases n
theorem Reps.tu {H H':Hp} (e:Tu H H'):∀ (ds:List PyData) (xs:List V),noLs ds=true->Reps H xs ds->Reps H' xs ds
 | [],xs,_,h=>by unfold Reps at h ⊢; exact h
 | d::ds,xs,n,h=>by
   unfold Reps at h ⊢
   unfold noLs at n
   rw [Bool.and_eq_true] at n
   obtain ⟨x,r,q,z,y⟩:=h
   exact ⟨x,r,q,Rep.tu e d x n.1 z,Reps.tu e ds r n.2 y⟩
end
mutual
theorem Rep.reads {X:Cx} {pins:List (Addr×Obj)} {σ:St} {H:Hp} {s:Shared} (I:Inv X pins σ H s):∀ (d:PyData) (v:V) (u:Value),d.canLay0=true->Rep H v d->RelV v u->∃ as,Reads s.heap u d as
 | .none,v,u,_,h,r=>by unfold Rep at h; subst h; cases r; exact ⟨_,.none⟩
 | .bool b,v,u,_,h,r=>by unfold Rep at h; subst h; cases r; exact ⟨_,.bool b⟩
 | .int i,v,u,_,h,r=>by unfold Rep at h; subst h; obtain ⟨t,r⟩:=r; subst r; exact ⟨_,.int i t⟩
 | .str x,v,u,_,h,r=>by unfold Rep at h; subst h; obtain ⟨t,r⟩:=r; subst r; exact ⟨_,.str x t⟩
 | .list ds,v,u,c,h,r=>by
   unfold Rep at h
   obtain ⟨a,xs,e,q,z⟩:=h
   subst e
   cases r
   obtain ⟨its,rv,p,hz⟩:=I.list (SqL.of q)
   obtain ⟨as,ra⟩:=Reps.reads I ds xs its (by simpa only [PyData.canLay0] using c) z rv
   obtain ⟨o,e1,e2,n,e3⟩:=p.isList
   exact ⟨_,.list e1 e2 e3 ra⟩
 | .tuple ds,v,u,c,h,r=>by
   unfold Rep at h
   obtain ⟨a,xs,e,q,z⟩:=h
   subst e
   cases r
   obtain ⟨its,rv,p,hz⟩:=I.tuple (SqT.of q)
   obtain ⟨as,ra⟩:=Reps.reads I ds xs its (by simpa only [PyData.canLay0] using c) z rv
   obtain ⟨o,e1,e2,n,e3⟩:=p
   exact ⟨_,.tuple e1 e2 e3 ra⟩
 | .dict _,v,u,c,h,r=>by simp [PyData.canLay0] at c
theorem Reps.reads {X:Cx} {pins:List (Addr×Obj)} {σ:St} {H:Hp} {s:Shared} (I:Inv X pins σ H s):∀ (ds:List PyData) (xs:List V) (us:List Value),PyData.canLayAll0 ds=true->Reps H xs ds->Vals xs us->∃ as,ReadsAll s.heap us ds as
 | [],xs,us,_,h,r=>by unfold Reps at h; subst h; cases r; exact ⟨_,.nil⟩
 | d::ds,xs,us,c,h,r=>by
   unfold Reps at h
   obtain ⟨x,t,e,z,y⟩:=h
   subst e
   have c':d.canLay0=true/\PyData.canLayAll0 ds=true:=by simpa [PyData.canLayAll0] using c
   cases r with
   | cons r1 r2 =>
     obtain ⟨as,ra⟩:=Rep.reads I d x _ c'.1 z r1
     obtain ⟨bs,rb⟩:=Reps.reads I ds t _ c'.2 y r2
     exact ⟨_,.cons ra rb⟩
end
theorem Reps.length {H:Hp}:∀ {ds:List PyData} {xs:List V},Reps H xs ds->xs.length=ds.length
 | [],_,h=>by unfold Reps at h; rw [h]; rfl
 | _::_,_,h=>by
   unfold Reps at h
   obtain ⟨x,r,rfl,_,y⟩:=h
   simp [Reps.length y]
theorem Reps.get {H:Hp}:∀ {ds:List PyData} {xs:List V} {i:Nat} {x:V},Reps H xs ds->xs[i]?=some x->∃ d,ds[i]?=some d/\Rep H x d
 | [],_,_,_,h,e=>by unfold Reps at h; subst h; simp at e
 | d::ds,_,0,x,h,e=>by
   unfold Reps at h
   obtain ⟨y,r,rfl,q,_⟩:=h
   have:y=x:=by simpa using e
   subst this
   exact ⟨d,rfl,q⟩
 | d::ds,_,i+1,x,h,e=>by
   unfold Reps at h
   obtain ⟨y,r,rfl,_,q⟩:=h
   exact Reps.get (i:=i) q (by simpa using e)
theorem Reps.ints {H:Hp}:∀ (ns:List Int),Reps H (ns.map V.int) (ns.map PyData.int)
 | []=>by unfold Reps; rfl
 | n::ns=>by
   show Reps H (V.int n::ns.map V.int) (PyData.int n::ns.map PyData.int)
   unfold Reps
   exact ⟨_,_,rfl,by unfold Rep; rfl,Reps.ints ns⟩
def tyD:PyData->Value
 | .none=>.type "NoneType"
 | .bool _=>.type "bool"
 | .int _=>.type "int"
 | .str _=>.type "str"
 | .list _=>.type "list"
 | .tuple _=>.type "tuple"
 | .dict _=>.type "dict"
theorem Rep.ty {K:Fq} {H:Hp}:∀ {d:PyData} {v:V},Rep H v d->TyOf K H v (tyD d)
 | .none,_,h=>by unfold Rep at h; subst h; exact .non
 | .bool _,_,h=>by unfold Rep at h; subst h; exact .bl _
 | .int _,_,h=>by unfold Rep at h; subst h; exact .int _
 | .str _,_,h=>by unfold Rep at h; subst h; exact .str _
 | .list _,_,h=>by unfold Rep at h; obtain ⟨a,xs,rfl,q,_⟩:=h; exact .lst q
 | .tuple _,_,h=>by unfold Rep at h; obtain ⟨a,xs,rfl,q,_⟩:=h; exact .tup q
 | .dict _,_,h=>by unfold Rep at h; obtain ⟨_,a,rfl,q⟩:=h; exact .dK q
abbrev rSubU:R2:=rI0 λ i j=>.int (i-j)
abbrev rDivU:R2:=rI CDivB λ i j=>.int (i / j)
abbrev rModU:R2:=rI (λ _ j=>0<j) λ i j=>.int (i % j)
abbrev rLtU:R2:=rI0 λ i j=>.bl (decide (i<j))
abbrev rLeU:R2:=rI0 λ i j=>.bl (decide (i<=j))
abbrev rGtU:R2:=rI0 λ i j=>.bl (decide (j<i))
abbrev rNegU:V->Hp->VK->Prop:=rU λ i=>.int (-i)
def rCatN (K:Fq):R2:=λ x y H Q=>∃ a b ys,x=.ref a/\y=.ref b/\SqT K H a []/\SqT K H b ys/\Q (.ref b) H
abbrev rAddU (K:Fq):R2:=λ x y H Q=>rI0 (λ i j=>.int (i+j)) x y H Q\/(λ x y H Q=>Zy5 K x y H Q\/(λ x y H Q=>rCatN K x y H Q\/rCat x y H Q) x y H Q) x y H Q
abbrev rMulU (K:Fq):R2:=λ x y H Q=>rI IntMulOk (λ i j=>.int (i*j)) x y H Q\/rRep x y H Q
def rEqD (K:Fq):R2:=λ x y H Q=>∃ d e,Rep H x d/\Rep H y e/\d.canLay0=true/\e.canLay0=true/\min d.depth e.depth<=64/\Q (.bl (PyData.eqv d e)) H
def rNeD (K:Fq):R2:=λ x y H Q=>∃ d e,Rep H x d/\Rep H y e/\d.canLay0=true/\e.canLay0=true/\min d.depth e.depth<=64/\Q (.bl (!PyData.eqv d e)) H
abbrev rEqU (K:Fq):R2:=λ x y H Q=>rEq x y H Q\/rEqD K x y H Q
abbrev rNeU (K:Fq):R2:=λ x y H Q=>rNe x y H Q\/rNeD K x y H Q
section
variable {X:Cx}
theorem op_subU:OpR X (binaryOp .Sub) rSubU:=Z2b
theorem op_divU:OpR X (binaryOp .FloorDiv) rDivU:=Zx9
theorem op_modU:OpR X (binaryOp .Mod) rModU:=Z2e
theorem op_catN:OpR X (binaryOp .Add) (rCatN X.K):=by
 intro pins s σ H x y v u Q I rx ry h
 obtain ⟨a,b,ys,rfl,rfl,ha,hb,q⟩:=h
 cases rx
 cases ry
 obtain ⟨its,r1,p1,_⟩:=I.tuple ha
 obtain ⟨its2,r2,p2,_⟩:=I.tuple hb
 cases r1
 obtain ⟨⟨cls,dd,data,sl⟩,ho,hc,n,hd⟩:=id p1
 obtain ⟨⟨cls2,dd2,data2,sl2⟩,ho2,hc2,n2,hd2⟩:=id p2
 simp only at hc hd hc2 hd2
 subst hc hd hc2 hd2
 exact concat_meets ⟨_,ho,rfl⟩ ⟨_,ho2,rfl⟩ noFill_tuple_add seq_tuple_add PySem.F.slot_tuple_add PySem.F.entry_tuple_add (PySem.F.args_tuple_add_2 _ _)
  (tuple_addW0 a b ([]:List Value).toArray its2.toArray n n2 dd dd2 sl sl2 (by simp)) ⟨ho,ho2,⟨.ref b,H,I,rfl,q⟩⟩
theorem op_addU:OpR X (binaryOp .Add) (rAddU X.K):=Z2g.or (Z0j.or (op_catN.or Z2f))
theorem op_mulU:OpR X (binaryOp .Mult) (rMulU X.K):=Z0i.or Z2c
theorem op_eqD (hu:X.A.units+64<cLine):OpR X (compareOp .Eq) (rEqD X.K):=by
 intro pins s σ H x y v u Q I rx ry h
 obtain ⟨d,e,h1,h2,c1,c2,hm,q⟩:=h
 obtain ⟨as,ra⟩:=Rep.reads I d x v c1 h1 rx
 obtain ⟨bs,rb⟩:=Rep.reads I e y u c2 h2 ry
 exact SeqAt.compareEq_reads ra rb c1 c2 (by omega) ⟨.bl _,H,I,rfl,q⟩
theorem op_neD (hu:X.A.units+64<cLine):OpR X (compareOp .NotEq) (rNeD X.K):=by
 intro pins s σ H x y v u Q I rx ry h
 obtain ⟨d,e,h1,h2,c1,c2,hm,q⟩:=h
 obtain ⟨as,ra⟩:=Rep.reads I d x v c1 h1 rx
 obtain ⟨bs,rb⟩:=Rep.reads I e y u c2 h2 ry
 exact SeqAt.compareNe_reads ra rb c1 c2 (by omega) ⟨.bl _,H,I,rfl,q⟩
theorem op_eqU (hu:X.A.units+64<cLine):OpR X (compareOp .Eq) (rEqU X.K):=Z3h.or (op_eqD hu)
theorem op_neU (hu:X.A.units+64<cLine):OpR X (compareOp .NotEq) (rNeU X.K):=Z3g.or (op_neD hu)
abbrev rSlU (K:Fq):V->Option Int->Option Int->Hp->VK->Prop:=λ x lo hi H Q=>rSlT K x lo hi H Q\/rSlL K x lo hi H Q
theorem sl_U:SlR X (rSlU X.K):=Z1x.or Zz0
def rIsinst (K:Fq):List V->Hp->VK->Prop:=λ xs H Q=>∃ x T t b,xs=[x,.ty T]/\TyOf K H x t/\PySem.W.kitOne K t (.type T)=some b/\Q (.bl b) H
theorem call_isinst:CallR X (.builtin "isinstance") (rIsinst X.K):=by
 intro pins s σ H xs us Q I r h
 obtain ⟨x,T,t,b,rfl,ty,e,q⟩:=h
 obtain ⟨u,w',rfl,rx,ry⟩:=Zos r
 cases ry
 exact Zwi I rx ty e λ tk=>⟨.bl b,H,I.tok tk,rfl,q⟩
def rLenU (K:Fq):List V->Hp->VK->Prop:=λ xs H Q=>∃ x n,xs=[x]/\LenV K x H n/\Q (.int (n:Nat)) H
theorem call_lenU:CallR X (.builtin "len") (rLenU X.K):=Zyv
def rSumU (K:Fq):List V->Hp->VK->Prop:=λ xs H Q=>∃ (p:Addr) (ns:List Int),xs=[.ref p]/\SqA K H p (ns.map V.int)/\Q (.int ns.sum) H
theorem call_sumU (hc:X.calm=true):CallR X (.builtin "sum") (rSumU X.K):=Zw8 hc
def rAllU (K:Fq):List V->Hp->VK->Prop:=λ xs H Q=>∃ (p:Addr) (bs:List Bool),xs=[.ref p]/\SqA K H p (bs.map V.bl)/\Q (.bl (bs.all id)) H
theorem call_allU (hc:X.calm=true):CallR X (.builtin "all") (rAllU X.K):=Zxd hc
def rAnyU (K:Fq):List V->Hp->VK->Prop:=λ xs H Q=>∃ (p:Addr) (bs:List Bool),xs=[.ref p]/\SqA K H p (bs.map V.bl)/\Q (.bl (bs.any id)) H
theorem call_anyU (hc:X.calm=true):CallR X (.builtin "any") (rAnyU X.K):=Zxc hc
def rMinU (K:Fq):List V->Hp->VK->Prop:=λ xs H Q=>∃ (p:Addr) (ns:List Int),xs=[.ref p]/\SqA K H p (ns.map V.int)/\ns≠[]/\∀ m,m∈ns->(∀ y∈ns,m<=y)->Q (.int m) H
theorem call_minU (hc:X.calm=true):CallR X (.builtin "min") (rMinU X.K):=Zw9 hc
def rTy_int (K:Fq):List V->Hp->VK->Prop:=λ xs H Q=>(∃ i,xs=[.int i]/\Q (.int i) H)\/∃ k,xs=[.bl k]/\Q (.int (if k then 1 else 0)) H
theorem call_ty_int:CallR X (.type "int") (rTy_int X.K):=Zxb
def rTy_tuple (K:Fq):List V->Hp->VK->Prop:=λ xs H Q=>∃ p ys,xs=[.ref p]/\((SqL K H p ys/\∀ l,H l=none->Q (.ref l) (upd H l (.tup ys)))\/(SqT K H p ys/\Q (.ref p) H))
theorem call_ty_tuple:CallR X (.type "tuple") (rTy_tuple X.K):=Zop
def iSeq (K:Fq) (tl:TE):TI:=λ σ H R=>tl σ H λ x H1=>∃ a,x=.ref a/\(((∃ xs,SqL K H1 a xs)/\R (Itl K a) H1)\/((∃ xs,SqT K H1 a xs)/\R (Itt K a) H1))
theorem pi_seq {tg l:Expr} {tl:TE} (hl:PE X l tl):PI X tg l (iSeq X.K tl):=by
 intro pins s σ H R I h
 refine thn (hl pins s σ H _ I h) λ v s1 ⟨x,H1,I1,r1,q1⟩=>?_
 obtain ⟨a,e,q⟩:=q1
 subst e
 cases r1
 rcases q with ⟨⟨xs,hq⟩,q⟩ | ⟨⟨xs,hq⟩,q⟩
 · obtain ⟨its,rv,p,hz⟩:=I1.list hq
   refine wpAny_pyIter_list p.isList ?_
   refine ⟨s1.heap.objs.size,[s1.heap.objs.size],_,_,H1,rfl,I1.kept (t':=s1.toks) λ b o e=>Heap.get?_push_of_some _ e,Zvc a _,⟨_,Heap.get?_push_size _ rfl,rfl,rfl⟩,λ b hb=>?_,q⟩
   have e:b=s1.heap.objs.size:=by simpa using hb
   subst e
   exact I1.fpOk (Nat.le_refl _) (I1.hok.fresh (Nat.le_refl _))
 · obtain ⟨its,rv,p,hz⟩:=I1.tuple hq
   refine wpAny_pyIter_tuple (show s1.heap.IsTuple a its.toArray from p) ?_
   refine ⟨s1.heap.objs.size,[s1.heap.objs.size],_,_,H1,rfl,I1.kept (t':=s1.toks) λ b o e=>Heap.get?_push_of_some _ e,Ztl a _,⟨_,Heap.get?_push_size _ rfl,rfl,rfl⟩,λ b hb=>?_,q⟩
   have e:b=s1.heap.objs.size:=by simpa using hb
   subst e
   exact I1.fpOk (Nat.le_refl _) (I1.hok.fresh (Nat.le_refl _))
end
theorem weight_mem:∀ {xs:List PySem.W.WData} {x:PySem.W.WData},x∈xs->x.weight<=PySem.W.WData.weightAll xs
 | [],_,h=>by simp at h
 | y::r,x,h=>by
   unfold PySem.W.WData.weightAll
   rcases List.mem_cons.mp h with e | e
   · subst e; omega
   · have:=weight_mem e
     omega
theorem bits_script {ns:List Int} (h:PySem.W.WData.layableAll [.list (ns.map .int)]=true):∀ n∈ns,Builtin.Int.intBits n<=1048576:=by
 intro n hn
 have h1:PySem.W.WData.layable (.list (ns.map .int))=true:=(PySem.W.layW_cons h).1
 unfold PySem.W.WData.layable at h1
 rw [Bool.and_eq_true,Bool.and_eq_true] at h1
 have h2:PySem.W.WData.weight (.list (ns.map .int))<=2 ^ 20:=of_decide_eq_true h1.2
 have h3:PySem.W.WData.weight (.list (ns.map .int))=PySem.W.WData.weightAll (ns.map .int):=by simp only [PySem.W.WData.weight]
 have h4:=weight_mem (x:=.int n) (List.mem_map.mpr ⟨n,hn,rfl⟩:PySem.W.WData.int n∈ns.map .int)
 have h5:PySem.W.WData.weight (.int n)=Builtin.Int.intBits n:=by simp only [PySem.W.WData.weight,Builtin.Int.intBits]
 have e:(2:Nat) ^ 20=1048576:=by decide
 omega
end L2
namespace L2
open PySem PySem.Spec PyProof.Rows
section
variable {K:Fq} {σ:St} {H:Hp} {Q:VK} {D:Ends} {t u:TS} {te ta tb tc:TE} {g:TG} {R:Bool->Hp->Prop} {c d:TT} {v x y:V} {i j:Int} {p:Addr} {xs:List V} {ns:List Int}
theorem Zu (h:t { D with nx:=u D } σ H):Zv t u D σ H:=h
theorem Z0 (h:te σ H λ x H1=>g x σ H1 D.nx):Z6 te g D σ H:=h
theorem Zw {n:Nat} {R:St->Hp->Prop} (h:R (σ.set n (some v)) H):Zt n v σ H R:=h
theorem Z4 (h:te σ H D.rt):Zz te D σ H:=h
theorem Jj (h:te σ H λ _ H1=>D.nx σ H1):J2 te D σ H:=h
theorem Yv (h:c σ H λ b H1=>if b=true then t D σ H1 else u D σ H1):Y0 c t u D σ H:=h
theorem Ys (h:D.nx σ H):Yl D σ H:=h
theorem Zd {n:Nat} (e:σ[n]?=some (some v)) (h:Q v H):Zc n σ H Q:=⟨v,e,h⟩
theorem w_c (h:Q v H):tC v σ H Q:=h
theorem Zk {r:R2} (h:ta σ H λ x H1=>tb σ H1 λ y H2=>r x y H2 Q):tOp r ta tb σ H Q:=h
theorem Zxl {r:V->Hp->VK->Prop} (h:ta σ H λ x H1=>r x H1 Q):tUn r ta σ H Q:=h
theorem Xe (h:te σ H λ x H'=>∃ k,x=.bl k/\R k H'):Y4 te σ H R:=h
theorem Xc {k:Bool} {R:Bool->Prop} (h:R k):∃ k',V.bl k=.bl k'/\R k':=⟨k,rfl,h⟩
theorem Wu (h:te σ H λ x H'=>∃ k,TruV K x H' k/\R k H'):Ua K te σ H R:=h
theorem Jh {b:Bool} {R:Bool->Prop} (h:R b):∃ k,TruV K (.bl b) H k/\R k:=⟨b,rfl,h⟩
theorem Z3b (h:c σ H λ b H1=>if b=true then d σ H1 R else R false H1):Zlx c d σ H R:=h
theorem Zo8 (h:c σ H λ b H1=>if b=true then R true H1 else d σ H1 R):tOr c d σ H R:=h
theorem w_not (h:c σ H λ b H1=>R (!b) H1):Kf c σ H R:=h
theorem Ui (h:ta σ H λ x H1=>∃ c,x=.bl c/\if c=true then tb σ H1 Q else Q (.bl false) H1):U6 ta tb σ H Q:=h
theorem Z27 (h:ta σ H λ x H1=>∃ c,x=.bl c/\if c=true then Q (.bl true) H1 else tb σ H1 Q):Zxs ta tb σ H Q:=h
theorem Zu2 (h:ta σ H λ x H1=>∃ c,x=.bl c/\Q (.bl (!c)) H1):Zou ta σ H Q:=h
theorem Z29 (h:c σ H λ b H1=>if b=true then ta σ H1 Q else tb σ H1 Q):tIf c ta tb σ H Q:=h
theorem Za7 {r r':R2} (h:ta σ H λ x H1=>tb σ H1 λ y H2=>r x y H2 λ z H3=>∃ k,z=.bl k/\if k=true then tc σ H3 λ w H4=>r' y w H4 Q else Q (.bl false) H3):Vu r r' ta tb tc σ H Q:=h
theorem Ye {r:List V->Hp->VK->Prop} {t:TA} (h:t σ H λ vs H1=>r vs H1 Q):tCB r t σ H Q:=h
theorem Ze4 (h:R true H):Qa σ H R:=h
theorem Zh {R:List V->Hp->Prop} (h:R [] H):Zg σ H R:=h
theorem Zb {t:TA} {R:List V->Hp->Prop} (h:ta σ H λ x H1=>t σ H1 λ xs H2=>R (x::xs) H2):Za ta t σ H R:=h
theorem Z5 {sp:Sp} {E:XK} {t:TA} (h:t σ H λ vs H1=>sp vs H1 Q E):Z7 sp [] E t σ H Q:=by
 show t σ H λ vs H1=>sp (vs++[]) H1 Q E
 simpa only [List.append_nil] using h
theorem Zcu {t:TA} (h:t σ H λ xs H1=>xs.length<=sizeLine/\∀ p,H1 p=none->Q (.ref p) (upd H1 p (.tup xs))):Vt t σ H Q:=h
theorem Jz {t:TA} (h:t σ H λ xs H1=>xs.length<=sizeLine/\∀ p,H1 p=none->Q (.ref p) (upd H1 p (.lst xs))):Xi t σ H Q:=h
theorem Z1o (h:∀ p,H p=none->Q (.ref p) (upd H p (.dK []))):Ztq σ H Q:=h
theorem Zu1 {R:Option Int->Hp->Prop} (h:te σ H λ x H1=>∃ i,x=.int i/\R (some i) H1):Zot te σ H R:=h
theorem Zo9 {R:Option Int->Hp->Prop} (h:R none H):Zh1 σ H R:=h
theorem Zy2 {R:Int->Prop} (h:R i):∃ i',V.int i=.int i'/\R i':=⟨i,rfl,h⟩
theorem Z1k {r:V->Option Int->Option Int->Hp->VK->Prop} {tl th:TO} (h:te σ H λ x H1=>tl σ H1 λ l H2=>th σ H2 λ u H3=>r x l u H3 Q):tSl r te tl th σ H Q:=h
theorem Zor {to ti:TE} {t:TSet} {R:St->Hp->Prop} (h:to σ H λ o H1=>ti σ H1 λ i H2=>t o i v H2 λ H3=>R σ H3):Zje to ti t v σ H R:=h
theorem Zjq {R:St->Hp->Prop} (h:R σ H):Zf2 [] σ H R:=⟨rfl,h⟩
theorem Vf {t:TG} {u:TGs} {R:St->Hp->Prop} (h:t v σ H λ σ' H'=>u xs σ' H' R):Wl t u (v::xs) σ H R:=⟨v,xs,rfl,h⟩
theorem Zpc {n:Nat} {t:TGs} {R:St->Hp->Prop} (e:SqT K H p xs) (hn:xs.length=n) (h:t xs σ H R):Zhp K n t (.ref p) σ H R:=⟨p,xs,rfl,e,hn,h⟩
theorem K1 {T:String} {r:V->List V->Hp->VK->Prop} {to:TE} {t:TA} (h:to σ H λ x H1=>tyV K T x H1/\t σ H1 λ xs H2=>r x xs H2 Q):tBM K T r to t σ H Q:=h
theorem X8 (h:Q (.int (i+j)) H):rAddU K (.int i) (.int j) H Q:=.inl ⟨i,j,rfl,rfl,h⟩
theorem Zo7 (h:Q (.int (i-j)) H):rSubU (.int i) (.int j) H Q:=⟨i,j,rfl,rfl,h⟩
theorem Jc (hc:IntMulOk i j) (h:Q (.int (i*j)) H):rMulU K (.int i) (.int j) H Q:=.inl ⟨i,j,rfl,rfl,hc,h⟩
theorem Qn (h0:0<j) (h1:j<=100000000000000000000000000000000000000000000000000000000000000000000000000000000000000000000000000000000000000) (h:Q (.int (i / j)) H):rDivU (.int i) (.int j) H Q :=
 ⟨i,j,rfl,rfl,CDivB.of h0 (Int.lt_of_le_of_lt h1 (by decide +kernel)),h⟩
theorem Y5 (h0:0<j) (h:Q (.int (i % j)) H):rModU (.int i) (.int j) H Q:=⟨i,j,rfl,rfl,h0,h⟩
theorem Zpa (h:Q (.int (-i)) H):rNegU (.int i) H Q:=⟨i,rfl,h⟩
theorem Ztg (h:Q (.bl (decide (i<j))) H):rLtU (.int i) (.int j) H Q:=⟨i,j,rfl,rfl,h⟩
theorem Vk (h:Q (.bl (decide (i<=j))) H):rLeU (.int i) (.int j) H Q:=⟨i,j,rfl,rfl,h⟩
theorem Zth (h:Q (.bl (decide (j<i))) H):rGtU (.int i) (.int j) H Q:=⟨i,j,rfl,rfl,h⟩
theorem Zys:decide (V.int i=V.int j)=decide (i=j):=by
 by_cases e:i=j
 · subst e; simp
 · rw [decide_eq_false e,decide_eq_false (λ q=>e (V.int.inj q))]
theorem Qm (h:Q (.bl (decide (i=j))) H):rEqU K (.int i) (.int j) H Q:=.inl ⟨rfl,by rw [Zys]; exact h⟩
theorem Z28 {a b:Bool} (h:Q (.bl (!decide (a=b))) H):rNeU K (.bl a) (.bl b) H Q:=.inl ⟨rfl,by rw [show decide (V.bl a=V.bl b)=decide (a=b) by cases a <;> cases b <;> rfl]; exact h⟩
theorem Yo (h:SqL K H p xs) (e:atI xs i=some v) (q:Q v H):rIx K (.ref p) (.int i) H Q:=.inl ⟨p,xs,i,v,rfl,rfl,h,e,q⟩
theorem Xx (h:SqT K H p xs) (e:atI xs i=some v) (q:Q v H):rIx K (.ref p) (.int i) H Q:=.inr (.inl ⟨p,xs,i,v,rfl,rfl,h,e,q⟩)
theorem Ji (h:SqL K H p xs) (q:Q (.int xs.length) H):rLenU K [.ref p] H Q:=⟨.ref p,xs.length,rfl,.inl ⟨xs,h,rfl⟩,q⟩
theorem Vj (h:SqT K H p xs) (q:Q (.int xs.length) H):rLenU K [.ref p] H Q:=⟨.ref p,xs.length,rfl,.inr ⟨xs,h,rfl⟩,q⟩
theorem Zjp {b:Bool} (h:Q (.int (if b then 1 else 0)) H):rTy_int K [.bl b] H Q:=.inr ⟨b,rfl,h⟩
theorem Zgp (h:SqL K H p xs) (q:∀ l,H l=none->Q (.ref l) (upd H l (.tup xs))):rTy_tuple K [.ref p] H Q:=⟨p,xs,rfl,.inl ⟨h,q⟩⟩
theorem Zjm (h:SqA K H p (ns.map V.int)) (q:Q (.int ns.sum) H):rSumU K [.ref p] H Q:=⟨p,ns,rfl,h,q⟩
theorem Zbb {bs:List Bool} (h:SqA K H p (bs.map V.bl)) (q:Q (.bl (bs.all id)) H):rAllU K [.ref p] H Q:=⟨p,bs,rfl,h,q⟩
theorem Z1q {bs:List Bool} (h:SqA K H p (bs.map V.bl)) (q:Q (.bl (bs.any id)) H):rAnyU K [.ref p] H Q:=⟨p,bs,rfl,h,q⟩
theorem Ziu {R:VK} (h:H p=some (.lst xs)) (hz:xs.length<sizeLine) (q:R .non (upd H p (.lst (xs++[v])))):Zem (.ref p) [v] H R:=⟨p,xs,v,rfl,rfl,h,hz,q⟩
theorem Zjn {k:Nat} {R:Hp->Prop} (h:H p=some (.lst xs)) (e:ixN xs.length i=some k) (q:R (upd H p (.lst (xs.set k v)))):Zfp (.ref p) (.int i) v H R:=⟨p,xs,i,k,rfl,rfl,h,e,q⟩
theorem Zhy (h:H p=some (.lst xs)):tyV K "list" (.ref p) H:=.inl ⟨rfl,_,SqL.of h⟩
theorem iteD {c A B:Prop} [Decidable c] (h1:c->A) (h2:¬ c->B):if decide c=true then A else B:=by
 by_cases h:c
 · rw [if_pos (decide_eq_true h)]; exact h1 h
 · rw [if_neg (by rw [decide_eq_false h]; decide)]; exact h2 h
theorem iteN {c A B:Prop} [Decidable c] (h1:¬ c->A) (h2:c->B):if (!decide c)=true then A else B:=by
 by_cases h:c
 · rw [if_neg (by rw [decide_eq_true h]; decide)]; exact h2 h
 · rw [if_pos (by rw [decide_eq_false h]; rfl)]; exact h1 h
theorem iteB {b:Bool} {A B:Prop} (h1:b=true->A) (h2:b=false->B):if b=true then A else B:=by
 cases b
 · exact iteF (h2 rfl)
 · exact iteT (h1 rfl)
theorem Zzj {c A B:Prop} [Decidable c] (h:c) (h1:A):if decide c=true then A else B:=iteD (λ _=>h1) λ z=>absurd h z
theorem Zf0 {c A B:Prop} [Decidable c] (h:c) (h1:B):if (!decide c)=true then A else B:=iteN (λ z=>absurd h z) λ _=>h1
theorem Xv {α:Type} {xs:List α} {i:Int} {v:α} (h0:0<=i) (h:xs[i.toNat]?=some v):atI xs i=some v:=by
 have e:((i.toNat:Nat):Int)=i:=Int.toNat_of_nonneg h0
 rw [← e]; exact Vh h
theorem Ux {ns:List Int} {k:Nat} (h:k<ns.length):(ns.map V.int)[k]?=some (.int (ns.getD k 0)):=by
 rw [List.getElem?_map,List.getD,List.getElem?_eq_getElem h]; rfl
theorem Zyy {ns:List Int} (h0:0<=i) (h1:i<ns.length):atI (ns.map V.int) i=some (.int (ns.getD i.toNat 0)):=Xv h0 (Ux (by omega))
theorem Zkv {n:Nat} (h0:0<=i) (h1:i<n):ixN n i=some i.toNat:=by unfold ixN; rw [if_pos h0,if_pos h1]
theorem Z1w {n:Nat} (h:n<=1000):n<=sizeLine:=Nat.le_of_lt (Wt h)
theorem W7 (h1:-18446744073709551616<i) (h2:i<18446744073709551616):IntMulOk i j:=IntMulOk.of_left (intBits_le_64 h1 h2)
theorem Zh5 (h1:-18446744073709551616<j) (h2:j<18446744073709551616):IntMulOk i j:=IntMulOk.of_right (intBits_le_64 h1 h2)
theorem Zht (h1:-1000000000000000000000000000000000000000000000000000000000000000000000000000000000000000000000000000000000000000000000000000000000000000000000000000000000000000000000000000000000000<i)
 (h2:i<1000000000000000000000000000000000000000000000000000000000000000000000000000000000000000000000000000000000000000000000000000000000000000000000000000000000000000000000000000000000000):Builtin.Int.intBits i<=1000:=by
 have e:(1000000000000000000000000000000000000000000000000000000000000000000000000000000000000000000000000000000000000000000000000000000000000000000000000000000000000000000000000000000000000:Int)<=2 ^ 1000:=by decide +kernel
 exact Z09 (by omega) (by omega)
theorem Zv4 (h1:-1000000000000000000000000000000000000000000000000000000000000000000000000000000000000000000000000000000000000000000000000000000000000000000000000000000000000000000000000000000000000<i)
 (h2:i<1000000000000000000000000000000000000000000000000000000000000000000000000000000000000000000000000000000000000000000000000000000000000000000000000000000000000000000000000000000000000)
 (h3:-1000000000000000000000000000000000000000000000000000000000000000000000000000000000000000000000000000000000000000000000000000000000000000000000000000000000000000000000000000000000000<j)
 (h4:j<1000000000000000000000000000000000000000000000000000000000000000000000000000000000000000000000000000000000000000000000000000000000000000000000000000000000000000000000000000000000000):IntMulOk i j :=
 IntMulOk.of_le (Zht h1 h2) (Zht h3 h4) (by decide)
theorem Same.laid {o:HO} (h:H p=none):Same H (upd H p o):=λ b u e=>by
 rw [Z1 (Qp e h)]; exact e
theorem Same.laidT {H0:Hp} {o:HO} (s:Same H0 H) (h:H p=none):Same H0 (upd H p o):=s.trans (Same.laid h)
theorem Same.put {H0:Hp} {o:HO} (s:Same H0 H) (h:H0 p=none):Same H0 (upd H p o):=λ b u e=>by
 rw [Z1 (Qp e h)]; exact s b u e
theorem Ze5 {wi:TI} {tb:TS} (h:wi σ H λ J H1=>∃ W:Nat->Nat->St->Hp->Prop,(∃ m,W 0 m σ H1)/\∀ i m σ H,W i m σ H ->
 (J.stop i H/\D.nx σ H)\/(J.go i H/\∃ N:St->Hp->Prop,(∀ σ' H',N σ' H'->∃ m',m'<m/\W (i+1) m' σ' H')/\∀ x H',J.yld i H x H'->g x σ H' λ σ2 H2=>tb { D with nx:=N,ct:=N,bk:=D.nx } σ2 H2)):Zbq wi g tb D σ H:=h
theorem Zba {ta:TA} {R:It->Hp->Prop} (h:ta σ H λ vs H1=>∃ j:Int,vs=[.int j]/\-(2 ^ 62)<=j/\j<2 ^ 62/\R (Itr 0 j.toNat) H1):Wk ta σ H R:=h
theorem Wc {n:Nat} (h:n<=1000):-(2 ^ 62)<=(n:Int)/\(n:Int)<2 ^ 62:=by omega
theorem Vi {tl:TE} {R:It->Hp->Prop} (h:tl σ H λ x H1=>∃ a,x=.ref a/\(((∃ xs,SqL K H1 a xs)/\R (Itl K a) H1)\/((∃ xs,SqT K H1 a xs)/\R (Itt K a) H1))):iSeq K tl σ H R:=h
theorem Jk {l:List (Option Nat)} {wi:TI} (h:wi σ H λ J H1=>∀ D,H1 D=none->∃ W:CompW,(∃ m,W 0 m [] (X5 l σ) (upd H1 D (.lst [])))/\Jt J g c te D W λ H'=>Q (.ref D) H'):Xq l wi g c te σ H Q:=h
end
theorem Za3 {n:Nat} {g:TG} {tb:TS} {D:Ends} {σ:St} {H:Hp} (Pv:Nat->St->Hp->Prop) (h0:Pv 0 σ H)
 (hs:∀ i σ H,i<n->Pv i σ H->g (.int (i:Nat)) σ H λ σ2 H2=>tb { D with nx:=Pv (i+1),ct:=Pv (i+1),bk:=D.nx } σ2 H2) (hd:∀ σ H,Pv n σ H->D.nx σ H) :
 ∃ W:Nat->Nat->St->Hp->Prop,(∃ m,W 0 m σ H)/\∀ i m σ H,W i m σ H ->
   ((Itr 0 n).stop i H/\D.nx σ H)\/((Itr 0 n).go i H/\∃ N:St->Hp->Prop,(∀ σ' H',N σ' H'->∃ m',m'<m/\W (i+1) m' σ' H')/\∀ x H',(Itr 0 n).yld i H x H'->g x σ H' λ σ2 H2=>tb { D with nx:=N,ct:=N,bk:=D.nx } σ2 H2) :=
 Zwu Pv h0 (λ i σ H hi p=>by rw [Int.zero_add]; exact hs i σ H hi p) hd
theorem ixi {ns:List Int} {i:Nat} (h:i<ns.length):atI (ns.map V.int) ((i:Nat):Int)=some (.int (ns.getD i 0)):=Vh (Ux h)
theorem Qx {ns:List Int} {i:Nat} (h:i<ns.length):ns.getD i 0∈ns:=Zjd h
theorem Zpj:∀ {ns:List Int},(∀ x∈ns,0<=x)->0<=ns.sum
 | [],_=>by simp
 | n::ns,h=>by
   have h1:=h n (by simp)
   have h2:=Zpj (ns:=ns) λ x hx=>h x (by simp [hx])
   rw [List.sum_cons]; omega
theorem Zjv:∀ {ns:List Int} {x:Int},(∀ y∈ns,0<=y)->x∈ns->0<x->0<ns.sum
 | [],_,_,hx,_=>by simp at hx
 | n::ns,x,h,hx,h0=>by
   rw [List.sum_cons]
   have h1:=h n (by simp)
   have h2:=Zpj (ns:=ns) λ x hx=>h x (by simp [hx])
   rcases List.mem_cons.mp hx with e | e
   · subst e; omega
   · have:=Zjv (ns:=ns) (λ x hx=>h x (by simp [hx])) e h0
     omega
theorem Zkj:∀ {ns:List Int},(∀ y∈ns,0<=y)->ns.sum≠0->∃ x∈ns,0<x
 | [],_,h=>by simp at h
 | n::ns,h,hs=>by
   by_cases hn:0<n
   · exact ⟨n,by simp,hn⟩
   · have h1:=h n (by simp)
     have e:n=0:=by omega
     subst e
     rw [List.sum_cons,Int.zero_add] at hs
     obtain ⟨x,hx,p⟩:=Zkj (ns:=ns) (λ y hy=>h y (by simp [hy])) hs
     exact ⟨x,by simp [hx],p⟩
theorem Zd8 {ns:List Int} {k:Nat} {x:Int}:(ns.map V.int).set k (.int x)=(ns.set k x).map V.int:=by rw [List.map_set]
section
variable {l:List (Option Nat)} {te:TE} {σ σr:St} {H1:Hp} {Q:Hp->Prop}
theorem Zir {n:Nat} (D:Addr) (P:Nat->V->Hp->Prop) (hP:∀ i v H H',Tu H H'->P i v H->P i v H') (hn:n<=1000) (hD:H1 D=none) (hini:∃ r0,X5 l σ=r0::σr)
 (hs:∀ i H (R:VK),i<n->Same H1 H->(∀ v H4,Same H H4->P i v H4->R v H4)->te (some (.int (i:Nat))::σr) H R)
 (hd:∀ ys H,ys.length=n->(∀ i v,ys[i]?=some v->P i v H)->Same H1 H->H D=some (.lst ys)->Q H) :
 ∃ W:CompW,(∃ m,W 0 m [] (X5 l σ) (upd H1 D (.lst [])))/\Jt (Itr 0 n) (Zt 0) Qa te D W Q:=by
 obtain ⟨r0,hini⟩:=hini
 refine Zle D (λ i ys σ2 H=>ys.length=i/\(∀ j v,ys[j]?=some v->P j v H)/\Same H1 H/\∃ r0,σ2=r0::σr) hn (λ i ys σ H h=>Nat.le_of_eq h.1) ⟨rfl,λ j v e=>by simp at e,Same.laid hD,r0,hini⟩ ?_ ?_
 · rintro i ys σ2 H hi ⟨hl,hp,hs1,r1,rfl⟩ hH
   refine Zw (Ze4 (iteT ?_))
   show te (some (.int (0+(i:Nat)))::σr) H _
   rw [Int.zero_add]
   refine hs i H _ hi hs1 λ v H4 h4 hv=>?_
   have hD4:H4 D=some (.lst ys):=h4 _ _ hH
   refine ⟨hD4,by simp [hl],λ j u e=>?_,(hs1.trans h4).put hD,some (.int (i:Nat)),by simp⟩
   by_cases hj:j<ys.length
   · rw [List.getElem?_append_left hj] at e
     exact hP _ _ _ _ (Tu.put hD4) (hP _ _ _ _ h4.tu (hp j u e))
   · rw [List.getElem?_append_right (by omega)] at e
     have hj2:j-ys.length=0:=by
      by_cases z:j-ys.length=0
      · exact z
      · rw [List.getElem?_eq_none (by simp; omega)] at e; cases e
     rw [hj2] at e
     have e':v=u:=by simpa using e
     have ej:j=i:=by omega
     rw [← e',ej]
     exact hP _ _ _ _ (Tu.put hD4) hv
 · rintro ys σ2 H ⟨hl,hp,hs1,_⟩ hH
   exact hd ys H hl hp hs1 hH
theorem Uz {K:Fq} {J:It} {a:Addr} {xs:List V} (hJ:(J=Itt K a/\H1 a=some (.tup xs))\/(J=Itl K a/\H1 a=some (.lst xs))) (D:Addr) (P:Nat->V->Hp->Prop) (hP:∀ i v H H',Tu H H'->P i v H->P i v H') (hn:xs.length<=1000) (hD:H1 D=none) (hini:∃ r0,X5 l σ=r0::σr)
 (hs:∀ i x H (R:VK),xs[i]?=some x->Same H1 H->(∀ v H4,Same H H4->P i v H4->R v H4)->te (some x::σr) H R)
 (hd:∀ ys H,ys.length=xs.length->(∀ i v,ys[i]?=some v->P i v H)->Same H1 H->H D=some (.lst ys)->Q H) :
 ∃ W:CompW,(∃ m,W 0 m [] (X5 l σ) (upd H1 D (.lst [])))/\Jt J (Zt 0) Qa te D W Q:=by
 obtain ⟨r0,hini⟩:=hini
 refine Zjj D xs (λ i ys σ2 H=>ys.length=i/\(∀ j v,ys[j]?=some v->P j v H)/\Same H1 H/\∃ r0,σ2=r0::σr) hn (λ i ys σ H h=>Nat.le_of_eq h.1) ?_ ⟨rfl,λ j v e=>by simp at e,Same.laid hD,r0,hini⟩ ?_ ?_
 · rintro i ys σ2 H ⟨_,_,hs1,_⟩ _
   rcases hJ with ⟨rfl,e⟩ | ⟨rfl,e⟩
   · exact Z2q (SqT.of (hs1 _ _ e)) i
   · exact Z2r (SqL.of (hs1 _ _ e)) i
 · rintro i x ys σ2 H hi ⟨hl,hp,hs1,r1,rfl⟩ hH
   refine Zw (Ze4 (iteT ?_))
   refine hs i x H _ hi hs1 λ v H4 h4 hv=>?_
   have hD4:H4 D=some (.lst ys):=h4 _ _ hH
   refine ⟨hD4,by simp [hl],λ j u e=>?_,(hs1.trans h4).put hD,some x,rfl⟩
   by_cases hj:j<ys.length
   · rw [List.getElem?_append_left hj] at e
     exact hP _ _ _ _ (Tu.put hD4) (hP _ _ _ _ h4.tu (hp j u e))
   · rw [List.getElem?_append_right (by omega)] at e
     have hj2:j-ys.length=0:=by
      by_cases z:j-ys.length=0
      · exact z
      · rw [List.getElem?_eq_none (by simp; omega)] at e; cases e
     rw [hj2] at e
     have e':v=u:=by simpa using e
     have ej:j=i:=by omega
     rw [← e',ej]
     exact hP _ _ _ _ (Tu.put hD4) hv
 · rintro ys σ2 H ⟨hl,hp,hs1,_⟩ hH
   exact hd ys H hl hp hs1 hH
theorem Ze1 {α:Type} {f:α->V}:∀ {ys:List V} {P:Nat->α->Prop},(∀ (i:Nat) v,ys[i]?=some v->∃ x,v=f x/\P i x)->∃ rs:List α,ys=rs.map f/\∀ (i:Nat) x,rs[i]?=some x->∃ y,f y=f x/\P i y
 | [],P,_=>⟨[],rfl,λ i x e=>by simp at e⟩
 | y::ys,P,h=>by
   obtain ⟨x,hx,px⟩:=h 0 y rfl
   obtain ⟨rs,e,hr⟩:=Ze1 (ys:=ys) (P:=λ i=>P (i+1)) (λ i v hv=>h (i+1) v (by simpa using hv))
   refine ⟨x::rs,by rw [e,hx]; rfl,λ i z hz=>?_⟩
   cases i with
   | zero =>
     have:x=z:=by simpa using hz
     subst this
     exact ⟨x,rfl,px⟩
   | succ i=>exact hr i z (by simpa using hz)
theorem Zrt {ys:List V} {P:Nat->Int->Prop} (h:∀ (i:Nat) v,ys[i]?=some v->∃ x,v=.int x/\P i x):∃ rs:List Int,ys=rs.map V.int/\∀ (i:Nat) x,rs[i]?=some x->P i x:=by
 obtain ⟨rs,e,hr⟩:=Ze1 h
 exact ⟨rs,e,λ i x hx=>by obtain ⟨y,ey,p⟩:=hr i x hx; cases ey; exact p⟩
theorem Z1d {ys:List V} {P:Nat->Bool->Prop} (h:∀ (i:Nat) v,ys[i]?=some v->∃ x,v=.bl x/\P i x):∃ rs:List Bool,ys=rs.map V.bl/\∀ (i:Nat) x,rs[i]?=some x->P i x:=by
 obtain ⟨rs,e,hr⟩:=Ze1 h
 exact ⟨rs,e,λ i x hx=>by obtain ⟨y,ey,p⟩:=hr i x hx; cases ey; exact p⟩
end
end L2
namespace L2
open PySem PySem.W PySem.Calls PyProof.Rows
theorem Zsl {l:OpenLaw} {n:Nat} {q:Program} {loose:List Str} {XP:(Str->Option Value)->Heap->Prop} {YP:World->Heap->Prop} {d:DefRec}
 (hn:l.most=some n) (hdf:d.params.defaults=[])
 (call:∀ (w:World) (s₀ s₁:Shared) (mg mb:Str->Option Value) (fa:Addr) (a:Addr) (vs:List Value) (ns:List Int),
  Ground q loose [] XP w s₀ mg mb s₁.heap->YP w s₁.heap->mg d.name=some (.ref fa) ->
  s₁.heap.get? a=some { cls:=.type "list",data:=.seq vs.toArray }->IntsAre vs ns->ns.length<=n->(∀ i∈ns,Builtin.Int.intBits i<=1048576)->s₁.gens=#[] ->
  codeAny (model l.prog w) callerA (.call (.ref fa) ⟨[.ref a],[]⟩) (λ r s'=>r=.ok (.ret (.bool true))/\OldK s₁.heap s'.heap/\s'.os=s₁.os/\AllBare s'.gens) s₁) :
 WalkO q loose XP YP l.row.toRowW d [] (λ f vs=>PySem.call f vs):=by
 intro w s₀ s₁ mg mb G Y fa o pm cd doc dV kV ho hd hcd hD hmg hg args vals as hpre hlay hrd hwl hlo
 obtain ⟨a,vs,ns,rfl,rfl,hobj,hints,hlen⟩:=Att.Zvg hn hpre hwl
 refine enter_call (codeAny_mono (call w s₀ s₁ mg mb fa a vs ns G Y hmg hobj hints hlen (bits_script hlay) hg) λ r s' hq=>?_)
 obtain ⟨rfl,h2,h3,h4⟩:=hq
 exact ⟨.inl ⟨.bool true,.bool true,[],rfl,λ _=>rfl,.bool true,Att.Zvr l _,λ _=>⟨List.Pairwise.nil,λ _ hm=>(nomatch hm)⟩⟩,h2,h3,h4⟩
def Zpv (K:Fq) (a:V) (H:Hp) (Q:VK) (E:XK):Prop:=∃ (l:Addr) (ns:List Int),a=.ref l/\SqL K H l (ns.map V.int)/\(∀ n∈ns,Builtin.Int.intBits n<=1048576)/\ns.length<=63/\∀ H',Q (.bl true) H'
theorem Zzp {l:OpenLaw} {q:Program} {loose:List Str} {XP:(Str->Option Value)->Heap->Prop} {YP:World->Heap->Prop} {d:DefRec} {K:Params->Frag} {x:Str} (k:Nat)
 (hn:l.most=some 63) (hdf:d.params.defaults=[]) (hk:k<=40)
 (hY:∀ (w:World) (h:Heap),YP w h->(K w.params).In h)
 (F:∀ (w:World) (mg:Str->Option Value) (h:Heap),(K w.params).In h->h.Ns mainGlobals mg->∃ f fd,mg d.name=some (.ref f)/\(∀ (s:Shared) (u:Value),BindsTo s fd ⟨[u],[]⟩ [(x,u)]) /\
  ∀ base:Heap,(K w.params).In base->base.Ns mainGlobals mg->FnOk l.prog w (K w.params) mg base CX0 k f fd [x] (sp1 (Zpv (K w.params)))) :
 WalkO q loose XP YP l.row.toRowW d [] (λ f vs=>PySem.call f vs):=by
 refine Zsl hn hdf λ w s₀ s₁ mg mb fa a vs ns G Y hmg hobj hints hlen hbits hg=>?_
 have KX:=hY w _ Y
 obtain ⟨f,fd,hf,hb,hF⟩:=F w mg _ KX G.T.g
 rw [hmg] at hf
 cases hf
 have hr:Room 40 callerA:=⟨rfl,by decide,by decide⟩
 exact Zyd KX G.T.g G.T.b G.T.builtins G.T.nolimit hg hobj hints (Nat.le_trans hlen (by decide)) (hr.mono hk) hF hb
  (λ H hO hS=>⟨_,rfl,a,ns,rfl,hS,hbits,hlen,λ _=>rfl⟩) λ H e s' h=>h
end L2
namespace L2
open PySem PySem.Spec PyProof.Rows
def CtxN (e:Addr) (h:Heap):Prop:=∃ o vs,h.get? e=some o/\o.data=.fields vs/\vs[2]?=some Value.none
theorem CtxN.keep {e:Addr} {h h':Heap} (c:CtxN e h) (k:h'.get? e=h.get? e):CtxN e h':=by
 obtain ⟨o,vs,q,d,z⟩:=c
 exact ⟨o,vs,k.trans q,d,z⟩
section
variable {M:Model} {A:Around} {E:Value->Shared->Prop} {s:Shared} {B:Heap} {env:Env} {l outer:List Env} {L e:Addr} {cls a0:Value} {Q:Unit->Shared->Prop}
theorem Zw1 {ob:Obj} {ws:Array Value} {hd0:Value} {hadNext:Bool} (frm:A.frames=some (env::outer)) (ff:s.heap.FunFrames B (env::outer)) (fr:env.frame=some L)
 (q1:s.heap.get? e=some ob) (kb:B.StaysIn s.heap) (en:B.get? e=none) (q2:ob.data=.fields ws) (q3:1<ws.size) (q4:ws[0]?=some a0) (q5:ws[2]?=some Value.none)
 (k:∀ h',Heap.NotedW B (env::outer) e ob.cls a0 (rawInt L) s.heap h'->CtxN e h'->Q () { s with heap:=h' }) :
 wpAny M A (do let a ← frameOf env; let pl ← entryPlaceOf L hadNext; let b ← EntryCells.newEntry hd0 a .none (rawInt L) .none pl; setField (.ref e) 1 b) Q E s:=by
 have out:e ∉ (env::outer).filterMap (·.frame):=λ z=>by
  obtain ⟨_,o,ho,nf⟩:=ff.mem z
  rw [q1] at ho
  cases ho
  exact nf ws q2
 refine wpAny_bind (wpAny_frameOf_fun frm ff fr λ g sl=>?_)
 refine wpAny_bind (wpAny_entryPlaceOf λ pl hpl=>?_)
 unfold EntryCells.newEntry newFields
 refine wpAny_bind (wpAny_newObj_type ?_ (hpl.sizeOk5 _ _ _ _ _))
 have g1:g.get? e=some ob:=(sl.2.1 e out).trans q1
 have gk:B.StaysIn g:=λ b o r=>(sl.2.1 b λ z=>by rw [(ff.mem z).1] at r; cases r).trans (kb b o r)
 generalize hT:({ cls:=.type "traceback",dict:=none,data:=.fields ([hd0,.ref L,.none,rawInt L,.none]++(if pl.isEmpty then List.replicate 6 Value.none else pl)).toArray }:Obj)=tb
 have g2:(g.push tb).get? e=some ob:=Heap.get?_push_of_some tb g1
 refine wpAny_setField g2 q2 q3 ?_
 have ne:g.objs.size≠e:=Nat.ne_of_gt (Heap.lt_size g1)
 have d3:=Obj.data_mapFields q2 (λ ar=>ar.setIfInBounds 1 (Value.ref g.objs.size))
 have g3:=Heap.get?_update_self (Obj.mapFields (λ ar=>ar.setIfInBounds 1 (Value.ref g.objs.size))) g2 (Obj.isFreed_of_fields d3)
 have gT:((g.push tb).update e (Obj.mapFields (λ ar=>ar.setIfInBounds 1 (Value.ref g.objs.size)))).get? g.objs.size=some tb :=
  (Heap.get?_update_other _ _ (Ne.symm ne)).trans (Heap.get?_push_size g (by rw [← hT]; rfl))
 have kp:∀ b o,b≠e->g.get? b=some o->((g.push tb).update e (Obj.mapFields (λ ar=>ar.setIfInBounds 1 (Value.ref g.objs.size)))).get? b=some o:=λ b o nb r=>by
  rw [Heap.get?_update_other _ _ (Ne.symm nb)]
  exact Heap.get?_push_of_some _ r
 have nrec:∀ b o,s.heap.get? b=some o->(∀ vs,o.data≠.fields vs)->b≠e:=λ b o r nf z=>by
  rw [z,q1] at r
  cases r
  exact nf ws q2
 refine k _ ⟨λ b o r=>kp b o (λ z=>by rw [z,en] at r; cases r) (gk b o r),ff.of_keeps λ b o r nf=>?_,?_,λ b o r nf=>?_⟩ ⟨_,_,g3,d3,?_⟩
 · obtain ⟨z,r2⟩:=sl.2.2 b o r
   exact ⟨_,kp b _ (nrec b o r nf) r2,rfl⟩
 · refine ⟨_,_,g.objs.size,tb,_,g3,⟨Obj.cls_mapFields _ _,?_⟩,d3,by simp [q3],gk.fresh,ne,gT,by rw [← hT],?_⟩
   · rw [Array.getElem?_setIfInBounds_ne (by decide)]; exact q4
   · first | (simp; done) | (rcases hpl with rfl | ⟨_,_,_,_,_,_,_,rfl⟩ <;> simp)
 · obtain ⟨z,r2⟩:=sl.2.2 b o r
   exact ⟨z,kp b _ (nrec b o r nf) r2⟩
 · rw [Array.getElem?_setIfInBounds_ne (by decide)]; exact q5
theorem Zt9 (frm:A.frames=some (env::outer)) (fr:env.frame=some L) (f1:B.StaysIn s.heap) (f2:B.get? e=none) (f3:s.heap.FunFrames B (env::outer)) {fl:Value} (f4:s.heap.TracedAtW B e cls a0 fl) (cx:CtxN e s.heap)
 (k:∀ h',Heap.HeldW B (env::outer) e cls a0 L h'->CtxN e h'->s.heap.UpToSlots h'->Q () { s with heap:=h' }):wpAny M A (noteFrame (.ref e) env) Q E s:=by
 by_cases hb:fl=rawInt L
 · subst hb
   exact wpAny_noteFrame_againW fr f4 (k s.heap ⟨f1,f2,f3,f4⟩ cx (Heap.UpToSlots.refl _))
 · obtain ⟨ob,ws,T,oT,ts,q1,⟨q2,q3⟩,q4,q5,q6,q7,q8,q9,q10⟩:=f4
   subst q2
   unfold noteFrame
   simp only [fr]
   refine wpAny_bind (wpAny_field q1 q4 q5 ?_)
   rw [if_pos (show (Value.ref T != Value.none)=true by simp)]
   refine wpAny_bind (wpAny_field q8 q9 q10 ?_)
   rw [if_neg (show ¬ ((fl == rawInt L)=true) by simpa using hb)]
   refine wpAny_bind (wpAny_setField q8 q9 (Array.getElem?_eq_some_iff.mp q10).1 ?_)
   have oth:∀ b,b≠T->(s.heap.update T (Obj.mapFields λ ar=>ar.setIfInBounds 3 Value.none)).get? b=s.heap.get? b:=λ b nb=>Heap.get?_update_other _ _ (Ne.symm nb)
   have nrec:∀ b o,s.heap.get? b=some o->(∀ vs,o.data≠.fields vs)->b≠T:=λ b o r nf z=>by
    rw [z,q8] at r
    cases r
    exact nf ts q9
   have c2:ws[2]?=some Value.none:=by
    obtain ⟨o,vs,r1,r2,r3⟩:=cx
    rw [q1] at r1
    cases r1
    rw [q4] at r2
    cases r2
    exact r3
   refine Zw1 frm (f3.of_keeps λ b o r nf=>⟨o,(oth b (nrec b o r nf)).trans r,rfl⟩) fr ((oth e (Ne.symm q7)).trans q1) (λ b o r=>(oth b λ z=>by rw [z,q6] at r; cases r).trans (f1 b o r)) f2 q4
    (Array.getElem?_eq_some_iff.mp q5).1 q3 c2 λ h' ⟨x1,x2,x3,x4⟩ cn=>k h' ⟨x1,f2,x2,x3⟩ cn λ b o r nf=>x4 b o ((oth b (nrec b o r nf)).trans r) nf
theorem Zs2 {fr:Option Addr} {fl:Value} (f1:B.StaysIn s.heap) (f2:B.get? e=none) (f3:s.heap.FunFrames B l) (f4:s.heap.TracedAtW B e cls a0 fl) (cx:CtxN e s.heap)
 (k:∀ h',B.StaysIn h'->h'.FunFrames B l->h'.TracedAtW B e cls a0 (fr.elim Value.none λ f=>rawInt f)->CtxN e h'->s.heap.UpToSlots h'->Q () { s with heap:=h' }):wpAny M A (setFlight (.ref e) fr) Q E s:=by
 obtain ⟨ob,ws,T,oT,ts,q1,q2,q4,q5,q6,q7,q8,q9,q10⟩:=f4
 have z3:3<ts.size:=(Array.getElem?_eq_some_iff.mp q10).1
 have nrec:∀ b o,s.heap.get? b=some o->(∀ vs,o.data≠.fields vs)->b≠T:=λ b o r nf z=>by
  rw [z,q8] at r
  cases r
  exact nf ts q9
 unfold setFlight
 refine wpAny_bind (wpAny_field q1 q4 q5 ?_)
 rw [if_pos (show (Value.ref T != Value.none)=true by simp)]
 refine wpAny_setField q8 q9 z3 ?_
 generalize (fr.elim Value.none λ f=>rawInt f)=fv at k ⊢
 have oth:∀ b,b≠T->(s.heap.update T (Obj.mapFields λ ar=>ar.setIfInBounds 3 fv)).get? b=s.heap.get? b:=λ b nb=>Heap.get?_update_other _ _ (Ne.symm nb)
 refine k _ (λ b o r=>(oth b λ z=>by rw [z,q6] at r; cases r).trans (f1 b o r)) (f3.of_keeps λ b o r nf=>⟨o,(oth b (nrec b o r nf)).trans r,rfl⟩) ?_ (cx.keep (oth e (Ne.symm q7))) λ b o r nf=>⟨o.slots,(oth b (nrec b o r nf)).trans r⟩
 exact ⟨ob,ws,T,_,_,(oth e (Ne.symm q7)).trans q1,q2,q4,q5,q6,q7,Heap.get?_update_self _ q8 (Obj.isFreed_of_fields (Obj.data_mapFields q9 _)),Obj.data_mapFields q9 _,by simp [z3]⟩
theorem Zkr {fl:Value} (f1:B.StaysIn s.heap) (f2:B.get? e=none) (f3:s.heap.FunFrames B l) (f4:s.heap.TracedAtW B e cls a0 fl) (cx:CtxN e s.heap)
 (k:∀ h',Heap.FlyingW B l e cls a0 h'->CtxN e h'->s.heap.UpToSlots h'->Q () { s with heap:=h' }):wpAny M A (setFlight (.ref e) none) Q E s :=
 Zs2 (fr:=none) f1 f2 f3 f4 cx λ h' x1 x2 x3 x4 x5=>k h' ⟨x1,f2,x2,x3⟩ x4 x5
theorem Zsy {fl:Value} (frm:A.frames=some (env::outer)) (fr:env.frame=some L) (f1:B.StaysIn s.heap) (f2:B.get? e=none) (f3:s.heap.FunFrames B (env::outer)) (f4:s.heap.TracedAtW B e cls a0 fl) (cx:CtxN e s.heap)
 (k:∀ h',Heap.FlyingW B outer e cls a0 h'->CtxN e h'->s.heap.UpToSlots h'->Q () { s with heap:=h' }):wpAny M A (leaving env (.ref e)) Q E s:=by
 unfold leaving
 refine wpAny_bind (Zt9 frm fr f1 f2 f3 f4 cx λ h' hh cn up=>?_)
 obtain ⟨g1,g2,g3,g4⟩:=hh
 refine Zkr (s:={ s with heap:=h' }) g1 g2 g3 g4 cn λ h2 fl2 cn2 up2=>?_
 obtain ⟨z1,z2,⟨_,_,z3⟩,z4⟩:=fl2
 exact k h2 ⟨z1,z2,z3,z4⟩ cn2 (up.trans up2)
theorem Zqr {h:Heap} {args:List Value} (frm:A.frames=some (env::outer)) (fr:env.frame=some L) (kb:B.StaysIn h) (ff:h.FunFrames B (env::outer)) (hx:Heap.MadeExcOf h s.heap e cls args)
 (k:∀ h' t,Heap.FlyingW B outer e cls (.ref t) h'->CtxN e h'->s.heap.UpToSlots h'->Q () { s with heap:=h' }):wpAny M A (leaving env (.ref e)) Q E s:=by
 obtain ⟨t,q1,_,_⟩:=hx.there
 have en:B.get? e=none:=by
  cases q:B.get? e with
  | none=>rfl
  | some o=>have:=kb e o q; rw [hx.new] at this; cases this
 unfold leaving noteFrame
 simp only [fr]
 refine wpAny_bind (wpAny_bind (wpAny_field q1 rfl (x:=Value.none) rfl ?_))
 rw [if_neg (show ¬ ((Value.none != Value.none)=true) by simp)]
 refine Zw1 (a0:=.ref t) frm (ff.of_keeps λ b o r _=>⟨o,hx.keeps b o r,rfl⟩) fr q1 (λ b o r=>hx.keeps b o (kb b o r)) en rfl (by show 1<6; decide) rfl rfl λ h' ⟨x1,x2,x3,x4⟩ cn=>?_
 refine Zkr (s:={ s with heap:=h' }) x1 en x2 x3 cn λ h2 fl2 cn2 up2=>?_
 obtain ⟨z1,z2,⟨_,_,z3⟩,z4⟩:=fl2
 exact k h2 t ⟨z1,z2,z3,z4⟩ cn2 (Heap.UpToSlots.trans x4 up2)
end
end L2
namespace L2
open PySem PySem.Spec PyProof.Rows
theorem ObjOk.ob {P:Program} {w:World} {H:Hp} {h:Heap} {a:Addr} {o:HO} (x:ObjOk P w H h a o):∃ ob,h.get? a=some ob:=by
 cases o with
 | lst xs=>obtain ⟨_,_,_,_,e⟩:=x; exact ⟨_,e⟩
 | tup xs=>obtain ⟨_,_,_,ob,e,_⟩:=x; exact ⟨ob,e⟩
 | dK kvs=>obtain ⟨_,_,_,_,o,_,_,e,_⟩:=x; exact ⟨o,e⟩
 | dT kvs=>obtain ⟨_,_,_,_,o,_,_,e,_⟩:=x; exact ⟨o,e⟩
 | set S n=>obtain ⟨o,_,_,_,e,_⟩:=x; exact ⟨o,e⟩
 | ins C dx fs=>obtain ⟨_,_,_,e,_⟩:=x; exact ⟨_,e⟩
 | own y=>exact x
 | xd fs=>obtain ⟨_,⟨_,_,_,e,_⟩,_⟩:=x; exact ⟨_,e⟩
 | rng lo hi=>obtain ⟨_,_,_,e⟩:=x; exact ⟨_,e⟩
 | frz ob u=>exact ⟨_,x.1⟩
 | tbl ps=>exact ⟨_,x⟩
 | met f y=>exact ⟨_,x⟩
 | ext φ=>exact x.2.1
structure Flown (P:Program) (w:World) (base:Heap) (outer:List Env) (H:Hp) (s s':Shared) (e:Addr) (cls:Value) (H':Hp) (B:Heap) (a0:Value):Prop where
 os:s'.os=s.os
 bare:AllBare s'.gens
 fly:Heap.FlyingW B outer e cls a0 s'.heap
 ctx:CtxN e s'.heap
 hok:HOk P w H' B
 bst:base.StaysIn B
 noe:H' e=none
 keep:∀ b o,s.heap.get? b=some o->H b=none->b ∉ frs outer->B.get? b=some o
 slot:∀ b o,s.heap.get? b=some o->H b=none->b∈frs outer->∃ sl,s'.heap.get? b=some { o with slots:=sl }
 free:∀ b o,s.heap.get? b=some o->H b=none->H' b=none
 there:∀ b o,s.heap.get? b=some o->b ∉ frs outer->∃ o',B.get? b=some o'
 tups:∀ b xs,H b=some (.tup xs)->H' b=some (.tup xs)
 frzs:∀ b o u,H b=some (.frz o u)->H' b=some (.frz o u)
 tbls:∀ b ps,H b=some (.tbl ps)->∃ more,H' b=some (.tbl (ps++more))
def CXr (P:Program) (w:World) (base:Heap):CXT:=λ outer H s E x s'=>∃ e cls H' B a0,x=.ref e/\Flown P w base outer H s s' e cls H' B a0/\E cls none H'
section
variable {P:Program} {w:World} {base:Heap} {outer:List Env} {H H':Hp} {s s':Shared} {e:Addr} {cls:Value} {B:Heap} {a0:Value}
theorem Flown.un (F:Flown P w base outer H s s' e cls H' B a0) (hf:∀ b∈frs outer,H b=none) {h5:Heap} (st:B.StaysIn h5)
 (sl:∀ b o,s.heap.get? b=some o->H b=none->b∈frs outer->∃ sl,h5.get? b=some { o with slots:=sl }):Un (frs outer) [] H H' s.heap h5 where
 keep:=λ b o q n hb _=>st b o (F.keep b o q n hb)
 slot:=λ b o q n hb _=>sl b o q n hb
 free:=λ b o q n _=>F.free b o q n
 there:=λ b o q _=>by
  by_cases hb:b∈frs outer
  · obtain ⟨z,r⟩:=sl b o q (hf b hb) hb
    exact ⟨_,r⟩
  · obtain ⟨o',r⟩:=F.there b o q hb
    exact ⟨o',st _ _ r⟩
 tups:=F.tups
 frzs:=F.frzs
 tbls:=F.tbls
theorem Flown.slots (F:Flown P w base outer H s s' e cls H' B a0) (fu:s.heap.FunFrames base outer) {h5:Heap} (up:s'.heap.UpToSlots h5) :
 ∀ b o,s.heap.get? b=some o->H b=none->b∈frs outer->∃ sl,h5.get? b=some { o with slots:=sl }:=λ b o q n hb=>by
 obtain ⟨z,r⟩:=F.slot b o q n hb
 obtain ⟨_,o2,q2,nf⟩:=fu.mem hb
 rw [q] at q2
 cases q2
 obtain ⟨z2,r2⟩:=up b _ r λ vs=>nf vs
 exact ⟨z2,r2⟩
end
section
variable {X:Cx} {pins:List (Addr×Obj)} {σ:St} {H:Hp} {s:Shared}
theorem Inv.hide (I:Inv X pins σ H s):HOk X.prog X.w H (PySem.W.hideAll s.heap (frs X.stack)):=λ a o q =>
 (I.hok a o q).stay (λ b u hb r=>PySem.W.hideAll_get _ r λ hm=>by
  have n:=I.stkFree b hm
  rcases hb with z | z
  · rw [z,q] at n; cases n
  · rw [z] at n; cases n) (λ _ z=>z) λ _ _ z=>z
end
section
variable {P:Program} {w:World} {K:Fq} {mg:Str->Option Value} {base:Heap} {N:List Str} {qual:Str} {scope:Scope} {f:Addr} {cd:Value} {A:Around} {outer:List Env} {s:Shared} {H:Hp} {E:XK}
abbrev cxR (P:Program) (w:World) (K:Fq) (mg:Str->Option Value) (base:Heap) (N:List Str) (qual:Str) (scope:Scope) (f:Addr) (cd:Value) (A:Around) (outer:List Env) (s:Shared) (H:Hp) (E:XK):Cx :=
 cxOf (CXr P w base) P w K mg base N qual scope f cd A outer s H E
theorem Zeu {pins:List (Addr×Obj)} {σ:St} {H1:Hp} {s1:Shared} (I:Inv (cxR P w K mg base N qual scope f cd A outer s H E) pins σ H1 s1) {b:Addr} (hb:b<s.heap.objs.size) (n:b ∉ frs outer) :
 b ∉ frs (cxR P w K mg base N qual scope f cd A outer s H E).stack:=λ z=>by
 rcases List.mem_cons.mp (I.stkSub b z) with q | q
 · have q':b=s.heap.objs.size:=q
   exact absurd hb (by rw [q']; exact Nat.lt_irrefl _)
 · exact n q
theorem Zzo {pins:List (Addr×Obj)} {σ:St} {H1:Hp} {s1:Shared} {e:Addr} {cls:Value} {args:List Value} {h':Heap} (I:Inv (cxR P w K mg base N qual scope f cd A outer s H E) pins σ H1 s1)
 (hx:Heap.MadeExcOf s1.heap h' e cls args) (hE:E cls none H1):(cxR P w K mg base N qual scope f cd A outer s H E).xe (.ref e) { s1 with heap:=h' }:=by
 show wpAny (model P w) (A.deeper (envOfC qual scope s.heap.objs.size f cd)) (leaving (envOfC qual scope s.heap.objs.size f cd) (.ref e)) _ _ _
 have fun1:=I.stack
 refine Zqr (B:=PySem.W.hideAll s1.heap (frs (cxR P w K mg base N qual scope f cd A outer s H E).stack)) (h:=s1.heap) I.ok.frames rfl (λ b o q=>PySem.W.of_hideAll _ q)
  (PySem.W.funFrames_hide fun1 λ env he b hb=>List.mem_filterMap.mpr ⟨env,he,hb⟩) hx λ h2 t fl cn up=>?_
 have inB:∀ b o,s1.heap.get? b=some o->b ∉ frs (cxR P w K mg base N qual scope f cd A outer s H E).stack->(PySem.W.hideAll s1.heap (frs (cxR P w K mg base N qual scope f cd A outer s H E).stack)).get? b=some o:=λ b o q n=>PySem.W.hideAll_get _ q n
 refine ⟨e,cls,H1,_,_,rfl,⟨I.os,I.bare,fl,cn,I.hide,λ b o q=>inB b o (I.bk b o q) λ hm=>?_,?_,λ b o q n hb=>?_,λ b o q n hb=>?_,λ b o q n=>I.base.free b o q n (by intro z; cases z),λ b o q hb=>?_,I.base.tups,I.base.frzs,I.base.tbls⟩,hE⟩
 · have z:base.get? b=none:=(fun1.mem hm).1
   rw [q] at z; cases z
 · cases q:H1 e with
   | none=>rfl
   | some u =>
     obtain ⟨ob,z⟩:=(I.hok e u q).ob
     rw [hx.new] at z; cases z
 · exact inB b o (I.base.keep b o q n hb (by intro z; cases z)) (Zeu I (Heap.lt_size q) hb)
 · obtain ⟨sl,r⟩:=I.base.slot b o q n hb (by intro z; cases z)
   obtain ⟨_,o2,q2,nf⟩:=I.ok.funs.mem hb
   have q3:s.heap.get? b=some o2:=q2
   rw [q] at q3
   cases q3
   obtain ⟨sl2,r2⟩:=up b _ (hx.keeps _ _ r) λ vs=>nf vs
   exact ⟨sl2,r2⟩
 · obtain ⟨o',r⟩:=I.base.there b o q (by intro z; cases z)
   exact ⟨o',inB b o' r (Zeu I (Heap.lt_size q) hb)⟩
theorem Xl:Passes (CXr P w base) (cxR P w K mg base N qual scope f cd A outer s H E) E:=by
 intro pins σ H1 s1 x s' I h
 obtain ⟨e,cls,H2,B,a0,rfl,F,hE⟩:=h
 show wpAny (model P w) (A.deeper (envOfC qual scope s.heap.objs.size f cd)) (leaving (envOfC qual scope s.heap.objs.size f cd) (.ref e)) _ _ _
 obtain ⟨f1,f2,f3,f4⟩:=F.fly
 refine Zsy I.ok.frames rfl f1 f2 f3 f4.at F.ctx λ h2 fl cn up=>⟨e,cls,H2,B,a0,rfl,⟨F.os.trans I.os,F.bare,fl,cn,F.hok,F.bst,F.noe,λ b o q n hb=>?_,λ b o q n hb=>?_,λ b o q n=>?_,λ b o q hb=>?_,λ b xs q=>F.tups b xs (I.base.tups b xs q),λ b o u q=>F.frzs b o u (I.base.frzs b o u q),λ b ps q=>?_⟩,hE⟩
 · exact F.keep b o (I.base.keep b o q n hb (by intro z; cases z)) (I.base.free b o q n (by intro z; cases z)) (Zeu I (Heap.lt_size q) hb)
 · obtain ⟨sl,r⟩:=I.base.slot b o q n hb (by intro z; cases z)
   have hb2:b∈frs (cxR P w K mg base N qual scope f cd A outer s H E).stack:=by
    show b∈(envOfC qual scope s.heap.objs.size f cd::outer).filterMap (·.frame)
    rw [List.filterMap_cons]
    exact List.mem_cons_of_mem _ hb
   obtain ⟨sl2,r2⟩:=F.slot b _ r (I.base.free b o q n (by intro z; cases z)) hb2
   obtain ⟨_,o2,q2,nf⟩:=I.ok.funs.mem hb
   have q3:s.heap.get? b=some o2:=q2
   rw [q] at q3
   cases q3
   obtain ⟨sl3,r3⟩:=up b _ r2 λ vs=>nf vs
   exact ⟨sl3,r3⟩
 · obtain ⟨o1,r⟩:=I.base.there b o q (by intro z; cases z)
   exact F.free b o1 r (I.base.free b o q n (by intro z; cases z))
 · obtain ⟨o1,r⟩:=I.base.there b o q (by intro z; cases z)
   exact F.there b o1 r (Zeu I (Heap.lt_size q) hb)
 · obtain ⟨m1,e1⟩:=I.base.tbls b ps q
   obtain ⟨m2,e2⟩:=F.tbls b _ e1
   exact ⟨m1++m2,by rw [e2,Array.append_assoc]⟩
theorem Fun.okR {x:Str} {st:Stmt} {fd:FuncData} {ps:List Str} {k:Nat} {sp:Sp} {f:Addr} (F:Fun K x qual st f fd) (S:FnScope N ps (Zq st)) (len:∀ vs H Q E,sp vs H Q E->vs.length=ps.length)
 (hbody:∀ (cdv:Value) (A:Around) (outer:List Env) (s:Shared) (H:Hp) (vs:List V) (Q:VK) (E:XK),Room k (A.deeper (envOfC qual (Zq st) s.heap.objs.size f cdv))->sp vs H Q E ->
  ∃ t,PSs (cxR P w K mg base N qual (Zq st) f cdv A outer s H E) (Xw st) t/\t { nx:=λ _ H'=>Q .non H',rt:=Q } (start N vs) H):FnOk P w K mg base (CXr P w base) (k+1) f fd ps sp:=by
 obtain ⟨oc,od,kV,doc,pm,an,cdv,ct,osl,rfl,lk,hcd⟩:=F.ex
 exact Zuj lk hcd S len λ A outer s H vs Q E hr hsp=>hbody cdv A outer s H vs Q E hr hsp
end
def bmV:List Value:=[.type "ValueError",.type "Exception",.type "BaseException",.type "object"]
structure ExC (K:Fq) (mg:Str->Option Value) (x:Str) (C:Addr):Prop where
 bound:mg x=some (.ref C)
 q:PySem.W.excIn K C bmV "ValueError.__new__"=true
theorem Zew {K:Fq} {h:Heap} {C:Addr} {bmB:List Value} {newId:String} (X:K.In h) (q:PySem.W.excIn K C bmB newId=true) :
 ∃ bm N nm q bs hdct sn sub ab col dd k0 k1 k2 k3 k5 mN,h.get? C=some (excClassObj nm q C N bs bm hdct sn sub ab col dd k0 k1 k2 k3 k5 newId)/\h.Ns N mN/\mN "__init__"=none/\OwnTail h bmB bm /\
   ∃ cd:ClassData,PySem.W.clsIn K C=some cd/\cd.mro=.ref C::bm:=by
 unfold PySem.W.excIn at q
 split at q
 · rename_i dd cd sl ho
   split at q
   · rename_i C' bm k0 k1 k2 k3 n k5 hm hs
     simp only [Bool.and_eq_true,beq_iff_eq,Bool.not_eq_true'] at q
     obtain ⟨⟨⟨⟨⟨rfl,rfl⟩,hdel⟩,ht⟩,hok⟩,hni⟩:=q
     have hcl:PySem.W.clsIn K C'=some cd:=by unfold PySem.W.clsIn; rw [ho]
     have hm0:=hm
     obtain ⟨nm,bs,mro,ns,qn,hd,sn,sub,ab,col,del⟩:=cd
     dsimp only at hm hdel hok hni
     subst hm hdel
     have hsl:sl=#[k0,k1,k2,k3,some (.builtin n),k5]:=by
      obtain ⟨l⟩:=sl
      simp only at hs
      rw [hs]
     subst hsl
     exact ⟨bm,ns,nm,qn,bs,hd,sn,sub,ab,col,dd,k0,k1,k2,k3,k5,_,X _ _ ho,.of_isNs (PySem.W.isNs_of_in X hok),PySem.W.nsMap_none_of_in X hok hni,PySem.W.tail_of_in X ht,_,hcl,hm0⟩
   · cases q
 · cases q
end L2
namespace L2
open PySem PySem.Spec PyProof.Rows
def Wm (E:XK) (C:Value) (t:TA):TS:=λ _ σ H=>t σ H λ vs H1=>vs.length<=sizeLine/\E C none H1
def Made (X:Cx) (E:XK) (C:Value):Prop:=∀ (pins:List (Addr×Obj)) (σ:St) (H1:Hp) (s1:Shared) (e:Addr) (args:List Value) (h':Heap),Inv X pins σ H1 s1->Heap.MadeExcOf s1.heap h' e C args->E C none H1->X.xe (.ref e) { s1 with heap:=h' }
theorem Za1 {P:Program} {w:World} {K:Fq} {mg:Str->Option Value} {base:Heap} {N:List Str} {qual:Str} {scope:Scope} {f:Addr} {cd:Value} {A:Around} {outer:List Env} {s:Shared} {H:Hp} {E:XK} {C:Value} :
 Made (cxR P w K mg base N qual scope f cd A outer s H E) E C:=λ _ _ _ _ _ _ _ I hx hE=>Zzo I hx hE
section
variable {X:Cx} {x:Str} {C:Addr} {E:XK} {e:Expr} {es:List Expr} {t:TA} {np cpos pos:Pos}
theorem Zx2 (hX:Made X E (.ref C)) (hc:X.calm=true) (T:ExC X.K X.mg x C) (hg:Gl X x) (ha:PA X (e::es) t) (hd:(x == ("__debug__":Str))=false:=by decide)
 (he:starEach (e::es) X.env=(false,eval e X.env)::starEach es X.env:=by rfl) (hpl:(backTo cpos (starEach es X.env)).any (·.1)=false:=by rfl) :
 PS X (.Raise (some (.Call (.Name x np) (e::es) [] cpos)) none pos) (Wm E (.ref C) t):=by
 intro pins s σ H D I h
 obtain ⟨tl,N,nm,q,bs,hdct,sn,sub,ab,col,dd,k0,k1,k2,k3,k5,mN,hC,hN,hni,TL,_⟩:=Zew I.mod.kin T.q
 refine wpAny_Raise_call_subT (C:=C) (nm:=nm) (q:=q) (N:=N) (bs:=bs) (bm:=tl) (hdct:=hdct) (sn:=sn) (sub:=sub) (ab:=ab) (col:=col) (dd:=dd) (k0:=k0) (k1:=k1) (k2:=k2) (k3:=k3) (k5:=k5)
  PySem.F.excBase_ValueError (mN:=mN) (TL.hasType PySem.F.excBase_ValueError.hasBase) (I.ok.hd hc) ?_ hni (Jy I hg T.bound ⟨rfl,?_⟩ hd)
 · rw [he]
   show (false || (backTo cpos (starEach es X.env)).any (·.1))=false
   rw [hpl]; rfl
 · have a:=ha cpos pins s σ H _ I h
   rw [he] at a ⊢
   refine Calls.evalArgs_plain (thn a λ us s2 ⟨vs,H2,I2,r,hz,hE⟩=>⟨rfl,by rw [← r.length]; exact hz,I2.bk _ _ hC,hN.keeps I2.bk,TL.keeps I2.bk,λ h' e' hm=>hX pins σ H2 s2 e' us h' I2 hm hE⟩)
end
abbrev Cx.suite (X:Cx) (e:Addr):Cx:={ X with A:=X.A.mark (some (.ref e)),calm:=false,xe:=λ _ _=>False }
theorem Inv.suite {X:Cx} {pins:List (Addr×Obj)} {σ:St} {H:Hp} {s:Shared} (I:Inv X pins σ H s) (e:Addr):Inv (X.suite e) pins σ H s :=
 ⟨⟨I.ok.mod,I.ok.kind,I.ok.glob,I.ok.blt,I.ok.above,I.ok.inj,I.ok.has,I.ok.cab,λ z=>(by cases z),I.ok.frames,I.ok.stk,I.ok.exf,I.ok.bs,I.ok.bsz,I.ok.noex,I.ok.exfs,I.ok.funs,I.ok.frf⟩,I.os,I.bare,I.base,I.loc,I.cell,I.free,I.freeC,I.pin,I.hok,I.len⟩
theorem Inv.unsuite {X:Cx} {pins:List (Addr×Obj)} {σ:St} {H:Hp} {s:Shared} {e:Addr} (ok:X.Ok) (I:Inv (X.suite e) pins σ H s):Inv X pins σ H s :=
 ⟨ok,I.os,I.bare,I.base,I.loc,I.cell,I.free,I.freeC,I.pin,I.hok,I.len⟩
theorem SP.unsuite {X:Cx} {pins:List (Addr×Obj)} {D:Ends} {f:Flow} {s:Shared} {e:Addr} (ok:X.Ok) (h:SP (X.suite e) pins D f s):SP X pins D f s:=by
 cases f with
 | next=>obtain ⟨σ,H,I,q⟩:=h; exact ⟨σ,H,I.unsuite ok,q⟩
 | brk=>obtain ⟨σ,H,I,q⟩:=h; exact ⟨σ,H,I.unsuite ok,q⟩
 | cont=>obtain ⟨σ,H,I,q⟩:=h; exact ⟨σ,H,I.unsuite ok,q⟩
 | ret u=>obtain ⟨v,σ,H,I,r,q⟩:=h; exact ⟨v,σ,H,I.unsuite ok,r,q⟩
theorem Zsa {M:Model} {A:Around} {E:Value->Shared->Prop} {K:Fq} {s:Shared} {e C D:Addr} {oe:Obj} {Q:Bool->Shared->Prop} (X:K.In s.heap)
 (qC:PySem.W.excIn K C bmV "ValueError.__new__"=true) (qD:PySem.W.excIn K D bmV "ValueError.__new__"=true) (he:s.heap.get? e=some oe) (hcls:oe.cls=.ref C) (hs:PySem.W.mroIn K C (.ref D)=some true)
 (hq:Q true s):wpAny M A (excMatches (.ref e) (.ref D)) Q E s:=by
 obtain ⟨h,g,d,t,os⟩:=s
 obtain ⟨bm,N,nm,q,bs,hdct,sn,sub,ab,col,dd,k0,k1,k2,k3,k5,mN,hC,hN,hni,TL,cd,hcd,hm⟩:=Zew X qC
 obtain ⟨bm',N',nm',q',bs',hdct',sn',sub',ab',col',dd',j0,j1,j2,j3,j5,mN',hD,hN',hni',TL',cd',hcd',hm'⟩:=Zew X qD
 have hcB:(Value.ref D::bm').contains (.type "BaseException")=true:=by rw [List.contains_cons,TL'.hasType PySem.F.excBase_ValueError.hasBase,Bool.or_true]
 have hcC:(Value.ref C::bm).contains (.ref D)=true:=by
  unfold PySem.W.mroIn at hs
  rw [hcd] at hs
  dsimp only [Option.bind] at hs
  rw [hm] at hs
  simpa using hs
 have f:=tc_notTuple
 unfold excMatches
 repeat (first | (with_reducible refine wpAny_loadPart_at he ?_; rw [hcls]) | with_reducible refine wpAny_loadPart_at hD ?_ | (with_reducible refine wpAny_isSubtype_exc hD ?_; rw [hcB]) | (with_reducible refine wpAny_isSubtype_exc hC ?_; rw [hcC]) | wp_step)
 exact hq
theorem Inv.track {X:Cx} {pins:List (Addr×Obj)} {σ:St} {H:Hp} {s:Shared} {e:Addr} {u:HO} (I:Inv X pins σ H s) (hn:H e=none) (hnew:∀ b o,X.s₀.heap.get? b=some o->X.H₀ b=none->b ∉ X.ex->b≠e) (hL:X.env.locals≠e)
 (hc:∀ x c,X.env.cells.lookup x=some c->c≠e) (hp:∀ p∈X.pn++pins,p.1≠e) (new:ObjOk X.prog X.w (upd H e u) s.heap e u):Inv X pins σ (upd H e u) s:=by
 have ne:∀ {b:Addr} {o:HO},H b=some o->b≠e:=λ q=>Qp q hn
 refine ⟨I.ok,I.os,I.bare,⟨I.base.keep,I.base.slot,λ b o q n hx=>?_,I.base.there,λ b xs q=>?_,λ b o v q=>?_,λ b ps q=>?_⟩,I.loc,I.cell,?_,λ x c q=>?_,λ p q=>?_,λ b v q=>?_,I.len⟩
 · rw [Z1 (hnew b o q n hx)]; exact I.base.free b o q n hx
 · have z:=I.base.tups b xs q
   rw [Z1 (ne z)]; exact z
 · have z:=I.base.frzs b o v q
   rw [Z1 (ne z)]; exact z
 · obtain ⟨m,z⟩:=I.base.tbls b ps q
   exact ⟨m,by rw [Z1 (ne z)]; exact z⟩
 · rw [Z1 hL]; exact I.free
 · rw [Z1 (hc x c q)]; exact I.freeC x c q
 · obtain ⟨a,b,c⟩:=I.pin p q
   exact ⟨a,by rw [Z1 (hp p q)]; exact b,c⟩
 · by_cases hb:b=e
   · subst hb
     rw [Zr] at q
     cases q
     exact new
   · rw [Z1 hb] at q
     exact (I.hok b v q).stay (λ _ _ _ r=>r) (λ c z=>by rw [Z1 (ne z)]; exact z) λ c xs z=>by rw [Z1 (ne z)]; exact z
def ExP (e C:Addr):Heap->Prop:=λ h=>∃ o,h.get? e=some o/\o.cls=.ref C
structure Caught (X:Cx) (pins:List (Addr×Obj)) (σ:St) (H:Hp) (s:Shared) (e C:Addr):Prop where
 inv:Inv X pins σ H s
 there:∃ o,s.heap.get? e=some o/\o.cls=.ref C
 trk:Inv X pins σ (upd H e (.ext (ExP e C))) s
 noe:H e=none
section
variable {X:Cx} {pins:List (Addr×Obj)} {σ:St} {H1 H2:Hp} {s1 s':Shared} {e C:Addr} {B:Heap} {a0:Value}
theorem Flown.caught (I1:Inv X pins σ H1 s1) (F:Flown X.prog X.w X.base X.stack H1 s1 s' e (.ref C) H2 B a0) (hL:X.env.locals∈frs X.stack) {h5:Heap} (fl:Heap.FlyingW B X.stack e (.ref C) a0 h5) (up:s'.heap.UpToSlots h5) :
 Caught X pins σ H2 { s' with heap:=h5 } e C:=by
 have I5:Inv X pins σ H2 { s' with heap:=h5 }:=I1.call' (s':={ s' with heap:=h5 }) (ch:=[]) F.os (F.un I1.stkFree fl.1 (F.slots I1.stack up)) (F.hok.kept fl.1) F.bare (λ b z=>absurd z (by simp))
 obtain ⟨oe,vs,q1,q2,q3,q4⟩:=fl.first
 have nfr:∀ b∈frs X.stack,b≠e:=λ b hb z=>by
  obtain ⟨_,o,ho,nf⟩:=fl.2.2.1.mem hb
  rw [z,q1] at ho
  cases ho
  exact nf vs q3
 have inB:∀ b o,s1.heap.get? b=some o->H1 b=none->b≠e:=λ b o q n z=>by
  by_cases hb:b∈frs X.stack
  · exact nfr b hb z
  · have:=F.keep b o q n hb
    rw [z,fl.2.1] at this; cases this
 refine ⟨I5,⟨oe,q1,q2⟩,I5.track F.noe (λ b o q n hx=>?_) (nfr _ hL) (λ x c q=>?_) (λ p q=>?_) ⟨⟨oe,q1,q2⟩,⟨oe,q1⟩,λ h1 h2 ⟨o,a,b⟩ k=>⟨o,k o a,b⟩⟩,F.noe⟩
 · by_cases hb:b∈X.fs
   · refine nfr b ?_
     rcases I1.ok.stk with z | ⟨z,_⟩
     · rw [z]; exact hb
     · rw [z]
       show b∈(X.env::X.outer).filterMap (·.frame)
       rw [List.filterMap_cons]
       split
       · exact hb
       · exact List.mem_cons_of_mem _ hb
   · exact inB b o (I1.base.keep b o q n hb hx) (I1.base.free b o q n hx)
 · obtain ⟨v,o,q5,_⟩:=I1.cell x c q
   exact inB c o q5 (I1.freeC x c q)
 · obtain ⟨a,b,_⟩:=I1.pin p q
   exact inB p.1 p.2 a b
end
section
variable {X:Cx} {k:Nat} {g x n:Str} {ps:List Str} {sp:Sp} {p np cpos epos hpos pos:Pos} {e:Expr} {es:List Expr} {t:TA} {ts:TS} {D:Addr} {b₀:Stmt} {suite:List Stmt} {i:Nat}
end
end L2
namespace L2
open PySem PySem.Spec PyProof.Rows
section
variable {prog:Program} {w:World} {A:Around} {E:Value->Shared->Prop} {s:Shared}
theorem Zua {it t:Addr} {i:Nat} {items:Array Value} {x:Value} {Q:Value->Shared->Prop} (hit:s.heap.IsTupleIter it t i) (ht:s.heap.IsTuple t items) (hx:items[i]?=some x)
 (hQ:∀ h',h'.IsTupleIter it t (i+1)->Heap.SameBut it s.heap h'->Q x { s with heap:=h' }):wpAny (model prog w) A (Builtin.SmallTypes.nextOf (.ref it)) Q E s:=by
 obtain ⟨o,p1,p2,p3⟩:=id hit
 obtain ⟨u,r1,r2,r3,r4⟩:=ht
 unfold Builtin.SmallTypes.nextOf
 refine wpAny_bind (wpAny_callSpecial?_slot (name:=Str.ofString "__next__") hit.typeIs F.slot_tuple_iterator_next (wpAny_call_entry F.slot_tuple_iterator_next hit.typeIs F.entry_tuple_iterator_next ?_ (F.args_tuple_iterator_next_1 _)))
 show wpAny _ _ (field (.ref it) 0 >>= _) _ _ s
 refine wpAny_bind (wpAny_field p1 p3 (x:=.ref t) rfl ?_)
 show wpAny _ _ (if (Value.ref t == Value.none)=true then _ else _) _ _ s
 rw [if_neg (λ z=>by cases z)]
 show wpAny _ _ (field (.ref it) 1 >>= _) _ _ s
 refine wpAny_bind (wpAny_field p1 p3 (x:=.int i 0) rfl ?_)
 show wpAny _ _ (seqItems? (.ref t) >>= _) _ _ s
 refine wpAny_bind (wpAny_seqItems r1 r4 ?_)
 simp only [Int.toNat_natCast,hx]
 refine wpAny_bind (wpAny_setField p1 p3 (by simp) (wpAny_pure ⟨x,rfl,wpAny_pure (hQ _ ⟨_,Heap.get?_update_self _ p1 (Obj.isFreed_of_fields (Obj.data_mapFields p3 _)),(Obj.cls_mapFields ..).trans p2,?_⟩ (Heap.SameBut.update ..))⟩))
 rw [Obj.data_mapFields p3]
 simp [rawInt]
theorem Zv3 {it t:Addr} {i:Nat} {items:Array Value} {Q:Value->Shared->Prop} (hh:A.handled=none) (hit:s.heap.IsTupleIter it t i) (ht:s.heap.IsTuple t items) (hx:items[i]?=none)
 (hE:∀ h' e,Heap.ExtBut it s.heap h'->(∃ o,h'.get? e=some o/\o.cls=.type "StopIteration")->E (.ref e) { s with heap:=h' }):wpAny (model prog w) A (Builtin.SmallTypes.nextOf (.ref it)) Q E s:=by
 obtain ⟨o,p1,p2,p3⟩:=id hit
 obtain ⟨u,r1,r2,r3,r4⟩:=ht
 unfold Builtin.SmallTypes.nextOf
 refine wpAny_bind (wpAny_callSpecial?_slot (name:=Str.ofString "__next__") hit.typeIs F.slot_tuple_iterator_next (wpAny_call_entry F.slot_tuple_iterator_next hit.typeIs F.entry_tuple_iterator_next ?_ (F.args_tuple_iterator_next_1 _)))
 show wpAny _ _ (field (.ref it) 0 >>= _) _ _ s
 refine wpAny_bind (wpAny_field p1 p3 (x:=.ref t) rfl ?_)
 show wpAny _ _ (if (Value.ref t == Value.none)=true then _ else _) _ _ s
 rw [if_neg (λ z=>by cases z)]
 show wpAny _ _ (field (.ref it) 1 >>= _) _ _ s
 refine wpAny_bind (wpAny_field p1 p3 (x:=.int i 0) rfl ?_)
 show wpAny _ _ (seqItems? (.ref t) >>= _) _ _ s
 refine wpAny_bind (wpAny_seqItems r1 r4 ?_)
 simp only [Int.toNat_natCast,hx]
 refine wpAny_bind (wpAny_rule (wpAny_bind (wpAny_setField p1 p3 (by simp) ?_)))
 show wpAny _ _ (newExc (.type "StopIteration") [] >>= _) _ _ _
 refine wpAny_bind ?_
 simp only [newExc,newTuple]
 refine wpAny_bind (wpAny_newObj_type ?_ (by size_fits))
 refine wpAny_bind (m:=firstArgMember _ _) (wpAny_of_eq (a:=Value.none) (by first | rfl | (simp only [firstArgMember]; rfl)) ?_)
 refine wpAny_newObj_type ?_ (by size_fits)
 simp only [raiseNew]
 refine wpAny_bind (wpAny_handled ?_)
 first | rw [show A.in1.handled=none from hh] | rw [hh]
 exact wpAny_bind (wpAny_pure (wpAny_throw (hE _ _ (((Heap.SameBut.update ..).extBut.push _).push _) ⟨_,Heap.get?_push_size _ rfl,rfl⟩)))
end
def SqB (b:Bool) (h:Heap) (a:Addr) (xs:Array Value):Prop:=if b=true then h.IsTuple a xs else h.IsList a xs
def ItB (b:Bool) (h:Heap) (it a:Addr) (k:Nat):Prop:=if b=true then h.IsTupleIter it a k else h.IsListIter it a k
def Zf1 (b:Bool) (a:Addr):Obj:=if b=true then { cls:=.type "tuple_iterator",data:=.fields #[.ref a,.int 0 0] } else { cls:=.type "list_iterator",data:=.fields #[.ref a,.int 0 0] }
theorem ItB.at {b:Bool} {h h':Heap} {it a:Addr} {k:Nat} (x:ItB b h it a k) (f:∀ o,h.get? it=some o->h'.get? it=some o):ItB b h' it a k:=by
 cases b with
 | true=>exact Heap.IsTupleIter.at (show h.IsTupleIter it a k from x) f
 | false=>exact Heap.IsListIter.at (show h.IsListIter it a k from x) f
theorem ItB.ob {b:Bool} {h:Heap} {it a:Addr} {k:Nat} (x:ItB b h it a k):∃ o,h.get? it=some o/\∀ v,o.data≠.cell v:=by
 cases b with
 | true=>obtain ⟨o,e,c,d⟩:=(show h.IsTupleIter it a k from x); exact ⟨o,e,λ v z=>by rw [d] at z; cases z⟩
 | false=>obtain ⟨o,e,c,d⟩:=(show h.IsListIter it a k from x); exact ⟨o,e,λ v z=>by rw [d] at z; cases z⟩
theorem ItB.new {b:Bool} {h:Heap} {it a:Addr} (e:h.get? it=some (Zf1 b a)):ItB b h it a 0:=by
 cases b with
 | true=>exact ⟨_,e,rfl,rfl⟩
 | false=>exact ⟨_,e,rfl,rfl⟩
theorem SqB.at {b:Bool} {h h':Heap} {a:Addr} {xs:Array Value} (x:SqB b h a xs) (f:∀ o,h.get? a=some o->h'.get? a=some o):SqB b h' a xs:=by
 cases b with
 | true=>obtain ⟨o,e,r⟩:=(show h.IsTuple a xs from x); exact ⟨o,f o e,r⟩
 | false=>obtain ⟨o,e,r⟩:=(show h.IsList a xs from x); exact ⟨o,f o e,r⟩
section
variable {prog:Program} {w:World} {A:Around} {E:Value->Shared->Prop} {s:Shared}
theorem Zfx {b:Bool} {it a:Addr} {k:Nat} {xs:Array Value} {x:Value} {Q:Value->Shared->Prop} (hi:ItB b s.heap it a k) (hs:SqB b s.heap a xs) (hx:xs[k]?=some x)
 (hQ:∀ h',ItB b h' it a (k+1)->Heap.SameBut it s.heap h'->Q x { s with heap:=h' }):wpAny (model prog w) A (Builtin.SmallTypes.nextOf (.ref it)) Q E s:=by
 cases b with
 | true=>exact Zua hi hs hx λ h' i' sb=>hQ h' i' sb
 | false=>exact wpAny_nextOf_list_item hi hs hx λ h' i' sb=>hQ h' i' sb
theorem Znh {b:Bool} {it a:Addr} {k:Nat} {xs:Array Value} {Q:Value->Shared->Prop} (hh:A.handled=none) (hi:ItB b s.heap it a k) (hs:SqB b s.heap a xs) (hx:xs[k]?=none)
 (hE:∀ h' e,Heap.ExtBut it s.heap h'->(∃ o,h'.get? e=some o/\o.cls=.type "StopIteration")->E (.ref e) { s with heap:=h' }):wpAny (model prog w) A (Builtin.SmallTypes.nextOf (.ref it)) Q E s:=by
 cases b with
 | true=>exact Zv3 hh hi hs hx hE
 | false=>exact wpAny_nextOf_list_end hh hi hs hx hE
theorem Zzi {b:Bool} {a:Addr} {xs:Array Value} {Q:Value->Shared->Prop} (hs:SqB b s.heap a xs) (hQ:Q (.ref s.heap.objs.size) { s with heap:=s.heap.push (Zf1 b a) }):wpAny (model prog w) A (pyIter (.ref a)) Q E s:=by
 cases b with
 | true=>exact wpAny_pyIter_tuple hs hQ
 | false=>exact wpAny_pyIter_list hs hQ
structure Apz (z TI TO i1 i2:Addr):Prop where
 a1:TI≠z
 a2:TO≠z
 a3:i1≠z
 a4:i2≠z
 a5:TI≠TO
 a6:TI≠i1
 a7:TI≠i2
 a8:TO≠i1
 a9:TO≠i2
 b1:i1≠i2
theorem Zo2 {b1 b2:Bool} {z TI TO i1 i2 l1 l2:Addr} {k:Nat} {xs ys:Array Value} {x y a b:Value} {Q:Option Value->Shared->Prop} (D:Apz z TI TO i1 i2)
 (hz:IsZip s.heap z TI TO .none) (hTI:IsPair s.heap TI (.ref i1) (.ref i2)) (hTO:IsPair s.heap TO a b) (h1:ItB b1 s.heap i1 l1 k) (h2:ItB b2 s.heap i2 l2 k) (hl1:SqB b1 s.heap l1 xs) (hl2:SqB b2 s.heap l2 ys)
 (n1:∀ c∈[z,TO,i1,i2],l1≠c/\l2≠c) (hx:xs[k]?=some x) (hy:ys[k]?=some y)
 (hQ:∀ h',IsZip h' z TI TO (rawInt s.heap.objs.size)->IsPair h' TO x y->ItB b1 h' i1 l1 (k+1)->ItB b2 h' i2 l2 (k+1)->IsPair h' s.heap.objs.size x y->h'.objs.size=s.heap.objs.size+1 ->
  (∀ c o,c≠z->c≠TO->c≠i1->c≠i2->s.heap.get? c=some o->h'.get? c=some o)->Q (some (.ref s.heap.objs.size)) { s with heap:=h' }) :
 wpAny (model prog w) A (pyNext (.ref z)) Q E s:=by
 have hT:s.TypeIs (.ref z) "zip":=⟨_,hz,rfl⟩
 have m1:=n1 z (by simp)
 have m2:=n1 TO (by simp)
 have m3:=n1 i1 (by simp)
 have m4:=n1 i2 (by simp)
 unfold pyNext
 refine wpAny_bind (wpAny_attempt (wpAny_callSpecial?_slot (name:=Str.ofString "__next__") hT F.slot_zip_next (wpAny_call_entry F.slot_zip_next hT F.entry_zip_next (?_:wpAny _ _ (Builtin.«zip.__next__» ⟨[.ref z],[]⟩) _ _ s) (F.args_zip_next_1 _))))
 show wpAny _ _ (field (.ref z) 2 >>= _) _ _ _
 refine wpAny_bind (wpAny_field hz rfl (x:=.bool false) rfl ?_)
 show wpAny _ _ (field (.ref z) 3 >>= _) _ _ _
 refine wpAny_bind (wpAny_field hz rfl (x:=.ref TI) rfl (wpAny_bind (wpAny_seqItems hTI rfl ?_)))
 show wpAny _ _ (Builtin.SmallTypes.ownedTupleIsFree (.ref z) >>= _) _ _ _
 refine wpAny_bind ?_
 unfold Builtin.SmallTypes.ownedTupleIsFree
 refine wpAny_bind (wpAny_field hz rfl (x:=.none) rfl (wpAny_pure ?_))
 simp only [if_true]
 refine wpAny_bind (wpAny_rule (wpAny_bind (wpAny_field hz rfl (x:=.ref TO) rfl (wpAny_bind (wpAny_setField_rec hz (by simp) λ g1 z1 s1=>?_)))))
 replace z1:IsZip g1 z TI TO .ellipsis:=z1
 refine wpAny_bind ?_
 simp only [List.zipIdx_cons,List.zipIdx_nil,List.forIn_cons,List.forIn_nil]
 refine wpAny_bind (wpAny_bind (wpAny_onRaise ?_))
 show wpAny _ _ (Builtin.SmallTypes.nextOf (.ref i1) >>= _) _ _ _
 refine wpAny_bind (Zfx (h1.at λ o q=>s1.extBut _ _ D.a3 q) (hl1.at λ o q=>s1.extBut _ _ m1.1 q) hx λ g2 j1 s2=>wpAny_pure ?_)
 have t2:IsPair g2 TO a b:=s2.extBut _ _ D.a8 (s1.extBut _ _ D.a2 hTO)
 refine wpAny_bind (wpAny_seqItems t2 rfl (wpAny_bind (wpAny_updateSeq_pair t2 λ g3 t3 s3=>wpAny_bind (wpAny_letGo (wpAny_pure ?_)))))
 replace t3:IsPair g3 TO x b:=t3
 refine wpAny_bind (wpAny_bind (wpAny_onRaise ?_))
 show wpAny _ _ (Builtin.SmallTypes.nextOf (.ref i2) >>= _) _ _ _
 refine wpAny_bind (Zfx (h2.at λ o q=>s3.extBut _ _ D.a9.symm (s2.extBut _ _ D.b1.symm (s1.extBut _ _ D.a4 q))) (hl2.at λ o q=>s3.extBut _ _ m2.2 (s2.extBut _ _ m3.2 (s1.extBut _ _ m1.2 q))) hy λ g4 j2 s4=>wpAny_pure ?_)
 have t4:IsPair g4 TO x b:=s4.extBut _ _ D.a9 t3
 refine wpAny_bind (wpAny_seqItems t4 rfl (wpAny_bind (wpAny_updateSeq_pair t4 λ g5 t5 s5=>wpAny_bind (wpAny_letGo (wpAny_pure (wpAny_pure ?_))))))
 replace t5:IsPair g5 TO x y:=t5
 refine wpAny_bind (wpAny_seqItems t5 rfl (wpAny_bind (wpAny_newTuple ?_)))
 have hsz:g5.objs.size=s.heap.objs.size:=by rw [s5.1,s4.1,s3.1,s2.1,s1.1]
 have z5:IsZip g5 z TI TO .ellipsis:=s5.extBut _ _ D.a2.symm (s4.extBut _ _ D.a4.symm (s3.extBut _ _ D.a2.symm (s2.extBut _ _ D.a3.symm z1)))
 have k5:∀ c o,c≠z->c≠TO->c≠i1->c≠i2->s.heap.get? c=some o->g5.get? c=some o:=λ c o c1 c2 c3 c4 q=>s5.extBut _ _ c2 (s4.extBut _ _ c4 (s3.extBut _ _ c2 (s2.extBut _ _ c3 (s1.extBut _ _ c1 q))))
 have j15:ItB b1 g5 i1 l1 (k+1):=j1.at λ o q=>s5.extBut _ _ D.a8.symm (s4.extBut _ _ D.b1 (s3.extBut _ _ D.a8.symm q))
 have j25:ItB b2 g5 i2 l2 (k+1):=j2.at λ o q=>s5.extBut _ _ D.a9.symm q
 have zlt:z<g5.objs.size:=Heap.lt_size z5
 show wpAny _ _ (Builtin.SmallTypes.ownedTupleHandOut (.ref z) (.ref g5.objs.size) >>= _) _ _ _
 refine wpAny_bind ?_
 unfold Builtin.SmallTypes.ownedTupleHandOut
 have z6:IsZip (g5.push { cls:=.type "tuple",data:=.seq #[x,y] }) z TI TO .ellipsis:=Heap.get?_push_of_some _ z5
 refine wpAny_bind (wpAny_setField_rec z6 (by simp) λ g7 z7 s7=>?_)
 replace z7:IsZip g7 z TI TO (rawInt g5.objs.size):=z7
 refine wpAny_setField_rec z7 (by simp) λ g8 z8 s8=>?_
 replace z8:IsZip g8 z TI TO (rawInt g5.objs.size):=z8
 have up:∀ c o,c≠z->g5.get? c=some o->g8.get? c=some o:=λ c o c1 q=>s8.extBut _ _ c1 (s7.extBut _ _ c1 (Heap.get?_push_of_some _ q))
 have T8:IsPair g8 g5.objs.size x y:=s8.extBut _ _ (Nat.ne_of_gt zlt) (s7.extBut _ _ (Nat.ne_of_gt zlt) (Heap.get?_push_size _ rfl))
 have sz8:g8.objs.size=g5.objs.size+1:=by rw [s8.1,s7.1,Heap.size_push]
 rw [hsz] at z8 T8 sz8
 refine wpAny_pure ⟨_,rfl,wpAny_pure ?_⟩
 show Q (some (.ref g5.objs.size)) _
 rw [hsz]
 exact hQ g8 z8 (up _ _ D.a2 t5) (j15.at λ o q=>up _ o D.a3 q) (j25.at λ o q=>up _ o D.a4 q) T8 sz8 λ c o c1 c2 c3 c4 q=>up c o c1 (k5 c o c1 c2 c3 c4 q)
theorem Zo1 {b1 b2:Bool} {z TI TO i1 i2 l1 l2:Addr} {k:Nat} {xs ys:Array Value} {a b:Value} {Q:Option Value->Shared->Prop} (hh:A.handled=none) (D:Apz z TI TO i1 i2)
 (hz:IsZip s.heap z TI TO .none) (hTI:IsPair s.heap TI (.ref i1) (.ref i2)) (hTO:IsPair s.heap TO a b) (h1:ItB b1 s.heap i1 l1 k) (h2:ItB b2 s.heap i2 l2 k) (hl1:SqB b1 s.heap l1 xs) (hl2:SqB b2 s.heap l2 ys)
 (n1:∀ c∈[z,TO,i1,i2],l1≠c/\l2≠c) (hend:xs[k]?=none\/ys[k]?=none)
 (hQ:∀ h',(∀ c o,c≠z->c≠TO->c≠i1->c≠i2->s.heap.get? c=some o->h'.get? c=some o)->Q none { s with heap:=h' }):wpAny (model prog w) A (pyNext (.ref z)) Q E s:=by
 have hT:s.TypeIs (.ref z) "zip":=⟨_,hz,rfl⟩
 have m1:=n1 z (by simp)
 have m2:=n1 TO (by simp)
 have m3:=n1 i1 (by simp)
 have m4:=n1 i2 (by simp)
 unfold pyNext
 have fin:∀ (e:Addr) (h':Heap),(∀ c o,c≠z->c≠TO->c≠i1->c≠i2->s.heap.get? c=some o->h'.get? c=some o)->(∃ o,h'.get? e=some o/\o.cls=.type "StopIteration") ->
  wpAny (model prog w) A (do if ← isInstance (.ref e) (.type "StopIteration") then pure none else throw (Value.ref e):Sem (Option Value)) Q E { s with heap:=h' }:=by
  rintro e h' kk ⟨o,q1,q2⟩
  exact wpAny_bind (wpAny_isInstance (T:="StopIteration") (b:=true) ⟨o,q1,q2⟩ isSubtype_stop (wpAny_pure (hQ _ kk)))
 refine wpAny_bind (wpAny_attempt (wpAny_callSpecial?_slot (name:=Str.ofString "__next__") hT F.slot_zip_next (wpAny_call_entry F.slot_zip_next hT F.entry_zip_next (?_:wpAny _ _ (Builtin.«zip.__next__» ⟨[.ref z],[]⟩) _ _ s) (F.args_zip_next_1 _))))
 show wpAny _ _ (field (.ref z) 2 >>= _) _ _ _
 refine wpAny_bind (wpAny_field hz rfl (x:=.bool false) rfl ?_)
 show wpAny _ _ (field (.ref z) 3 >>= _) _ _ _
 refine wpAny_bind (wpAny_field hz rfl (x:=.ref TI) rfl (wpAny_bind (wpAny_seqItems hTI rfl ?_)))
 show wpAny _ _ (Builtin.SmallTypes.ownedTupleIsFree (.ref z) >>= _) _ _ _
 refine wpAny_bind ?_
 unfold Builtin.SmallTypes.ownedTupleIsFree
 refine wpAny_bind (wpAny_field hz rfl (x:=.none) rfl (wpAny_pure ?_))
 simp only [if_true]
 refine wpAny_bind (wpAny_rule (wpAny_bind (wpAny_field hz rfl (x:=.ref TO) rfl (wpAny_bind (wpAny_setField_rec hz (by simp) λ g1 z1 s1=>?_)))))
 replace z1:IsZip g1 z TI TO .ellipsis:=z1
 refine wpAny_bind ?_
 simp only [List.zipIdx_cons,List.zipIdx_nil,List.forIn_cons,List.forIn_nil]
 refine wpAny_bind (wpAny_bind (wpAny_onRaise ?_))
 show wpAny _ _ (Builtin.SmallTypes.nextOf (.ref i1) >>= _) _ _ _
 cases hx:xs[k]? with
 | none =>
   refine wpAny_bind (Znh hh (h1.at λ o q=>s1.extBut _ _ D.a3 q) (hl1.at λ o q=>s1.extBut _ _ m1.1 q) hx λ g2 e s2 he=>?_)
   obtain ⟨oe,p1,p2⟩:=he
   have z2:IsZip g2 z TI TO .ellipsis:=s2 _ _ D.a3.symm z1
   have nez:e≠z:=λ q=>by subst q; rw [z2] at p1; cases p1; simp at p2
   exact wpAny_setField_rec z2 (by simp) λ g3 _ s3=>fin e g3 (λ c o c1 _ c3 _ q=>s3.extBut _ _ c1 (s2 _ _ c3 (s1.extBut _ _ c1 q))) ⟨oe,s3.extBut _ _ nez p1,p2⟩
 | some x =>
   have hy:ys[k]?=none:=by
    rcases hend with q | q
    · rw [hx] at q; cases q
    · exact q
   refine wpAny_bind (Zfx (h1.at λ o q=>s1.extBut _ _ D.a3 q) (hl1.at λ o q=>s1.extBut _ _ m1.1 q) hx λ g2 j1 s2=>wpAny_pure ?_)
   have t2:IsPair g2 TO a b:=s2.extBut _ _ D.a8 (s1.extBut _ _ D.a2 hTO)
   refine wpAny_bind (wpAny_seqItems t2 rfl (wpAny_bind (wpAny_updateSeq_pair t2 λ g3 t3 s3=>wpAny_bind (wpAny_letGo (wpAny_pure ?_)))))
   refine wpAny_bind (wpAny_bind (wpAny_onRaise ?_))
   show wpAny _ _ (Builtin.SmallTypes.nextOf (.ref i2) >>= _) _ _ _
   refine wpAny_bind (Znh hh (h2.at λ o q=>s3.extBut _ _ D.a9.symm (s2.extBut _ _ D.b1.symm (s1.extBut _ _ D.a4 q))) (hl2.at λ o q=>s3.extBut _ _ m2.2 (s2.extBut _ _ m3.2 (s1.extBut _ _ m1.2 q))) hy λ g4 e s4 he=>?_)
   obtain ⟨oe,p1,p2⟩:=he
   have z4:IsZip g4 z TI TO .ellipsis:=s4 _ _ D.a4.symm (s3.extBut _ _ D.a2.symm (s2.extBut _ _ D.a3.symm z1))
   have nez:e≠z:=λ q=>by subst q; rw [z4] at p1; cases p1; simp at p2
   exact wpAny_setField_rec z4 (by simp) λ g5 _ s5=>fin e g5 (λ c o c1 c2 c3 c4 q=>s5.extBut _ _ c1 (s4 _ _ c4 (s3.extBut _ _ c2 (s2.extBut _ _ c3 (s1.extBut _ _ c1 q))))) ⟨oe,s5.extBut _ _ nez p1,p2⟩
abbrev zp1 (b1:Bool) (h:Heap) (l1:Addr):Heap:=h.push (Zf1 b1 l1)
abbrev zp2 (b1 b2:Bool) (h:Heap) (l1 l2:Addr):Heap:=(zp1 b1 h l1).push (Zf1 b2 l2)
abbrev zp3 (b1 b2:Bool) (h:Heap) (l1 l2:Addr):Heap:=(zp2 b1 b2 h l1 l2).push { cls:=.type "tuple",data:=.seq #[.ref h.objs.size,.ref (zp1 b1 h l1).objs.size] }
abbrev zp4 (b1 b2:Bool) (h:Heap) (l1 l2:Addr):Heap:=(zp3 b1 b2 h l1 l2).push { cls:=.type "tuple",data:=.seq #[.none,.none] }
abbrev zp5 (b1 b2:Bool) (h:Heap) (l1 l2:Addr):Heap:=(zp4 b1 b2 h l1 l2).push { cls:=.type "zip",data:=.fields #[.none,.bool false,.bool false,.ref (zp2 b1 b2 h l1 l2).objs.size,.ref (zp3 b1 b2 h l1 l2).objs.size] }
theorem Zuv {b1 b2:Bool} (l1 l2:Addr) (xs ys:Array Value) :
 Meets (Builtin.«zip.__new__» ⟨[.type "zip",.ref l1,.ref l2],[]⟩) (λ _ R s=>SqB b1 s.heap l1 xs/\SqB b2 s.heap l2 ys/\R (.ok (.ret (.ref (zp4 b1 b2 s.heap l1 l2).objs.size))) { s with heap:=zp5 b1 b2 s.heap l1 l2 }) :=
 .of_wp λ prog w A R s h=>by
  obtain ⟨hp,g,d,tk,os⟩:=s
  obtain ⟨q1,q2,h⟩:=h
  have hsub:=sub_zip
  have L1:SqB b1 (Shared.heap ⟨hp,g,d,tk,os⟩) l1 xs:=q1
  have L2:SqB b2 (Shared.heap ⟨hp.push (Zf1 b1 l1),g,d,tk,os⟩) l2 ys:=q2.at λ o e=>Heap.get?_push_of_some _ e
  wp_walk using Zzi L1,Zzi L2
  exact ⟨_,rfl,h⟩
theorem Zo3 {b1 b2:Bool} {l1 l2:Addr} {xs ys:Array Value} {Q:Value->Shared->Prop} (q1:SqB b1 s.heap l1 xs) (q2:SqB b2 s.heap l2 ys)
 (h:∀ h',IsZip h' (s.heap.objs.size+4) (s.heap.objs.size+2) (s.heap.objs.size+3) .none->IsPair h' (s.heap.objs.size+2) (.ref s.heap.objs.size) (.ref (s.heap.objs.size+1)) ->
  IsPair h' (s.heap.objs.size+3) .none .none->ItB b1 h' s.heap.objs.size l1 0->ItB b2 h' (s.heap.objs.size+1) l2 0->(∀ c o,s.heap.get? c=some o->h'.get? c=some o)->Q (.ref (s.heap.objs.size+4)) { s with heap:=h' }) :
 wpAny (model prog w) A (call (.type "zip") [.ref l1,.ref l2]) Q E s:=by
 refine callType_new F.called_zip (by decide) (F.typeCall_zip_2 _ _) (F.newCall_zip_2 _ _) (λ obj=>F.args_object_init_3 obj _ _) F.entry_zip_new (Zuv l1 l2 xs ys) ⟨q1,q2,?_⟩
 have y1:(zp1 b1 s.heap l1).objs.size=s.heap.objs.size+1:=Heap.size_push ..
 have y2:(zp2 b1 b2 s.heap l1 l2).objs.size=s.heap.objs.size+2:=by rw [Heap.size_push,y1]
 have y3:(zp3 b1 b2 s.heap l1 l2).objs.size=s.heap.objs.size+3:=by rw [Heap.size_push,y2]
 have y4:(zp4 b1 b2 s.heap l1 l2).objs.size=s.heap.objs.size+4:=by rw [Heap.size_push,y3]
 have u5:(zp5 b1 b2 s.heap l1 l2).get? (zp4 b1 b2 s.heap l1 l2).objs.size=some _:=Heap.get?_push_size _ rfl
 have u4:(zp5 b1 b2 s.heap l1 l2).get? (zp3 b1 b2 s.heap l1 l2).objs.size=some _:=Heap.get?_push_of_some _ (Heap.get?_push_size _ rfl)
 have u3:(zp5 b1 b2 s.heap l1 l2).get? (zp2 b1 b2 s.heap l1 l2).objs.size=some _:=Heap.get?_push_of_some _ (Heap.get?_push_of_some _ (Heap.get?_push_size _ rfl))
 have u2:(zp5 b1 b2 s.heap l1 l2).get? (zp1 b1 s.heap l1).objs.size=some (Zf1 b2 l2):=Heap.get?_push_of_some _ (Heap.get?_push_of_some _ (Heap.get?_push_of_some _ (Heap.get?_push_size _ (by cases b2 <;> rfl))))
 have u1:(zp5 b1 b2 s.heap l1 l2).get? s.heap.objs.size=some (Zf1 b1 l1):=Heap.get?_push_of_some _ (Heap.get?_push_of_some _ (Heap.get?_push_of_some _ (Heap.get?_push_of_some _ (Heap.get?_push_size _ (by cases b1 <;> rfl)))))
 show _/\_
 rw [y2,y3,y4] at u5
 rw [y1,y2] at u3
 rw [y3] at u4
 rw [y1] at u2
 rw [y4]
 exact ⟨⟨_,u5,rfl⟩,h _ u5 u3 u4 (ItB.new u1) (ItB.new u2) λ c o x=>Heap.get?_push_of_some _ (Heap.get?_push_of_some _ (Heap.get?_push_of_some _ (Heap.get?_push_of_some _ (Heap.get?_push_of_some _ x))))⟩
end
theorem Inv.turnedN {X:Cx} {pins:List (Addr×Obj)} {σ:St} {H:Hp} {s:Shared} {h':Heap} {t':Nat} {fp:List Addr} (I:Inv X pins σ H s) (k:∀ b o,b ∉ fp->s.heap.get? b=some o->h'.get? b=some o) (hf:∀ b∈fp,FpOk X pins H b) :
 Inv X pins σ H { s with heap:=h',toks:=t' }:=by
 have nit:∀ b u,H b=some u->b ∉ fp:=λ b u e z=>by rw [(hf b z).1] at e; cases e
 refine I.step (g':=s.gens) (d':=s.drawn) (ch:=fp) (λ b hb=>?_) (λ b o _ _ hc e _=>k b o hc e) (λ b o _ _ hc e _=>⟨o.slots,k b o hc e⟩) (λ _ _ _ _ n=>n)
  (λ b o hc e=>⟨o,k b o hc e⟩) (λ _ _ e=>e) (λ _ _ _ e=>e) (λ b ps e=>⟨#[],by rw [e]; simp⟩) (λ m hm=>?_) (λ b u e=>?_) I.bare
 · obtain ⟨f0,f1,f2,f3,f4,f5⟩:=hf b hb
   exact ⟨f3,f1,f4,f5⟩
 · obtain ⟨o,es,ep,ho,r⟩:=hm
   exact ⟨o,es,ep,k _ o (λ z=>(hf _ z).2.1 rfl) ho,r⟩
 · refine (I.hok b u e).stay (λ c v hc q=>k c v ?_ q) (λ _ q=>q) λ _ _ q=>q
   rcases hc with z | z
   · rw [z]; exact nit b u e
   · exact nit c _ z
def Itz (K:Fq) (a1 a2:Addr):It :=
 ⟨λ i H=>∃ xs ys x y,SqT K H a1 xs/\SqT K H a2 ys/\xs[i]?=some x/\ys[i]?=some y,
  λ i H v H'=>∃ p x y,H p=none/\v=.ref p/\(∀ xs,SqT K H a1 xs->xs[i]?=some x)/\(∀ ys,SqT K H a2 ys->ys[i]?=some y)/\H'=upd H p (.tup [x,y]),
  λ i H=>∃ xs ys,SqT K H a1 xs/\SqT K H a2 ys/\(xs.length<=i\/ys.length<=i)⟩
def Tnz (z TI TO i1 i2 l1 l2:Addr) (i:Nat) (h:Heap):Prop:=IsZip h z TI TO .none/\IsPair h TI (.ref i1) (.ref i2)/\(∃ a b,IsPair h TO a b)/\ItB true h i1 l1 i/\ItB true h i2 l2 i
theorem Zxq {P:Program} {w:World} {K:Fq} {elts:List Expr} {x1} {pos:Pos} {z TI TO i1 i2 l1 l2:Addr} (D:Apz z TI TO i1 i2) (n1:∀ c∈[z,TO,i1,i2],l1≠c/\l2≠c) :
 Turn P w K (.Tuple elts x1 pos) (Itz K l1 l2) [z,TI,TO,i1,i2] z (Tnz z TI TO i1 i2 l1 l2) where
 mem:=by simp
 obj:=λ i h st b hb=>by
  obtain ⟨q1,q2,⟨a,b',q3⟩,q4,q5⟩:=st
  have hb':b=z\/b=TI\/b=TO\/b=i1\/b=i2:=by simpa using hb
  rcases hb' with e | e | e | e | e <;> subst e
  · exact ⟨_,q1,λ v z=>by cases z⟩
  · exact ⟨_,q2,λ v z=>by cases z⟩
  · exact ⟨_,q3,λ v z=>by cases z⟩
  · exact q4.ob
  · exact q5.ob
 keep:=λ i h h' st k=>by
  obtain ⟨q1,q2,⟨a,b',q3⟩,q4,q5⟩:=st
  exact ⟨k z (by simp) _ q1,k TI (by simp) _ q2,⟨a,b',k TO (by simp) _ q3⟩,q4.at λ o e=>k i1 (by simp) o e,q5.at λ o e=>k i2 (by simp) o e⟩
 item:=by
  intro X hP hw hK hc i pins s σ H E I hf st hg
  subst hP hw hK
  obtain ⟨xs,ys,x,y,h1,h2,hx,hy⟩:=hg
  obtain ⟨its,rv,p,hz⟩:=I.tuple h1
  obtain ⟨jts,rv',p',hz'⟩:=I.tuple h2
  obtain ⟨u,hu,ru⟩:=rv.get hx
  obtain ⟨u',hu',ru'⟩:=rv'.get hy
  obtain ⟨q1,q2,⟨a,b,q3⟩,q4,q5⟩:=st
  refine Zo2 D q1 q2 q3 q4 q5 (show s.heap.IsTuple l1 its.toArray from p) (show s.heap.IsTuple l2 jts.toArray from p') n1 (x:=u) (y:=u') (by simpa using hu) (by simpa using hu') λ h' a1 a2 a3 a4 a5 a6 kk=>?_
  have lt:∀ {c o},s.heap.get? c=some o->s.heap.objs.size≠c:=λ e=>Nat.ne_of_gt (Heap.lt_size e)
  refine ⟨_,rfl,wpAny_letOwnedTupleGo_zip a1 λ hh2 z2 s2=>?_⟩
  have kk2:∀ c o,c ∉ [z,TI,TO,i1,i2]->s.heap.get? c=some o->hh2.get? c=some o:=λ c o hc e =>
   s2.extBut _ _ (λ x=>hc (by simp [x])) (kk c o (λ x=>hc (by simp [x])) (λ x=>hc (by simp [x])) (λ x=>hc (by simp [x])) (λ x=>hc (by simp [x])) e)
  have I1:Inv X pins σ H { s with heap:=hh2 }:=I.turnedN (t':=s.toks) kk2 hf
  have T2:IsPair hh2 s.heap.objs.size u u':=s2.extBut _ _ (lt q1) a5
  have hn:H s.heap.objs.size=none:=I.hok.fresh (Nat.le_refl _)
  have fr:=I.fpOk (H':=H) (Nat.le_refl _) hn
  have I2:Inv X pins σ (upd H s.heap.objs.size (.tup [x,y])) { s with heap:=hh2 }:=by
   refine I1.track hn (λ b o q _ _=>?_) fr.2.1.symm fr.2.2.2.2.1 fr.2.2.2.2.2 ?_
   · exact Nat.ne_of_lt (Nat.lt_of_lt_of_le (Heap.lt_size q) I.sz)
   · exact ⟨by simp [sizeLine],[u,u'],.cons ru (.cons ru' .nil),⟨_,T2,rfl,_,rfl⟩⟩
  refine ⟨.ref s.heap.objs.size,_,I2,rfl,⟨_,x,y,hn,rfl,λ zs hzs=>?_,λ zs hzs=>?_,rfl⟩,?_,λ b hb=>?_⟩
  · rw [I.tuple_inj hzs h1]; exact hx
  · rw [I.tuple_inj hzs h2]; exact hy
  · exact ⟨z2,s2.extBut _ _ D.a1 (kk _ _ D.a1 D.a5 D.a6 D.a7 q2),⟨_,_,s2.extBut _ _ D.a2 a2⟩,a3.at λ o e=>s2.extBut _ _ D.a3 e,a4.at λ o e=>s2.extBut _ _ D.a4 e⟩
  · have e:b≠s.heap.objs.size:=by
     have hb':b=z\/b=TI\/b=TO\/b=i1\/b=i2:=by simpa using hb
     rcases hb' with e | e | e | e | e <;> subst e
     · exact (lt q1).symm
     · exact (lt q2).symm
     · exact (lt q3).symm
     · obtain ⟨o,e,_⟩:=q4.ob; exact (lt e).symm
     · obtain ⟨o,e,_⟩:=q5.ob; exact (lt e).symm
    rw [Z1 e]
    exact (hf b hb).1
 done:=by
  intro X hP hw hK hc i pins s σ H E I hf st hg
  subst hP hw hK
  obtain ⟨xs,ys,h1,h2,hx⟩:=hg
  obtain ⟨its,rv,p,hz⟩:=I.tuple h1
  obtain ⟨jts,rv',p',hz'⟩:=I.tuple h2
  have e1:=rv.length
  have e2:=rv'.length
  obtain ⟨q1,q2,⟨a,b,q3⟩,q4,q5⟩:=st
  refine Zo1 (I.ok.hd hc) D q1 q2 q3 q4 q5 (show s.heap.IsTuple l1 its.toArray from p) (show s.heap.IsTuple l2 jts.toArray from p') n1 (by rcases hx with q | q; (· left; simp; omega); (· right; simp; omega)) λ h' kk=>⟨rfl,?_⟩
  exact I.turnedN (t':=s.toks) (λ c o hc e=>kk c o (λ x=>hc (by simp [x])) (λ x=>hc (by simp [x])) (λ x=>hc (by simp [x])) (λ x=>hc (by simp [x])) e) hf
 self:=λ _ _ _ _ _ st h=>wpAny_pyIter_zip st.1 h
theorem Ztb (n:Nat):Apz (n+4:Nat) (n+2:Nat) (n+3:Nat) n (n+1:Nat):=by
 constructor <;> (intro h; have h':(_:Nat)=_:=h; omega)
section
variable {X:Cx}
def Zh7 (K:Fq) (ta:TA):TI:=λ σ H R=>ta σ H λ vs H1=>∃ a b,vs=[.ref a,.ref b]/\(∃ xs,SqT K H1 a xs)/\(∃ ys,SqT K H1 b ys)/\R (Itz K a b) H1
theorem Zro:bootBuiltins "zip"=some (.type "zip"):=by decide +kernel
theorem Zz8 {a b:Expr} {ta:TA} {p pos tpos:Pos} {elts:List Expr} {x1} (hg:Gl X "zip") (hm:X.mg "zip"=none) (ha:PA X [a,b] ta) (hs:starEach [a,b] X.env=[(false,eval a X.env),(false,eval b X.env)]:=by rfl) (hs2:starEach [b] X.env=[(false,eval b X.env)]:=by rfl) :
 PI X (.Tuple elts x1 tpos) (.Call (.Name "zip" p) [a,b] [] pos) (Zh7 X.K ta):=by
 intro pins s σ H R I h
 refine Call_ (Zet I hg hm Zro (PyProof.Rows.callWith_type1 (thn (ha pos pins s σ H _ I h) λ us s1 ⟨vs,H1,I1,r1,q1⟩=>?_) (by rw [hs,hs2]) (by rw [hs2]; rfl)))
 obtain ⟨l1,l2,e,⟨xs,h1⟩,⟨ys,h2⟩,q⟩:=q1
 subst e
 cases r1 with
 | cons r rr =>
   cases rr with
   | cons r' rr =>
     cases rr
     cases r
     cases r'
     obtain ⟨its,rv,p,hz⟩:=I1.tuple h1
     obtain ⟨jts,rv',p',hz'⟩:=I1.tuple h2
     have hl1:l1<s1.heap.objs.size:=by obtain ⟨o,e,_⟩:=(show s1.heap.IsTuple l1 its.toArray from p); exact Heap.lt_size e
     have hl2:l2<s1.heap.objs.size:=by obtain ⟨o,e,_⟩:=(show s1.heap.IsTuple l2 jts.toArray from p'); exact Heap.lt_size e
     refine Zo3 (b1:=true) (b2:=true) (show s1.heap.IsTuple l1 its.toArray from p) (show s1.heap.IsTuple l2 jts.toArray from p') λ h' a1 a2 a3 a4 a5 kk=>wpAny_pyIter_zip a1 ?_
     refine ⟨s1.heap.objs.size+4,_,_,_,H1,rfl,I1.kept (t':=s1.toks) kk,Zxq (Ztb s1.heap.objs.size) (l1:=l1) (l2:=l2) λ c hc=>?_,⟨a1,a2,⟨_,_,a3⟩,a4,a5⟩,λ b hb=>?_,q⟩
     · have hc':c=s1.heap.objs.size+4\/c=s1.heap.objs.size+3\/c=s1.heap.objs.size\/c=s1.heap.objs.size+1:=by simpa using hc
       have hle:s1.heap.objs.size<=c:=by rcases hc' with e | e | e | e <;> rw [e] <;> first | exact Nat.le_refl _ | exact Nat.le_add_right _ _
       exact ⟨Nat.ne_of_lt (Nat.lt_of_lt_of_le hl1 hle),Nat.ne_of_lt (Nat.lt_of_lt_of_le hl2 hle)⟩
     · have hb':b=s1.heap.objs.size+4\/b=s1.heap.objs.size+2\/b=s1.heap.objs.size+3\/b=s1.heap.objs.size\/b=s1.heap.objs.size+1:=by simpa using hb
       have hle:s1.heap.objs.size<=b:=by rcases hb' with e | e | e | e | e <;> rw [e] <;> first | exact Nat.le_refl _ | exact Nat.le_add_right _ _
       exact I1.fpOk hle (I1.hok.fresh hle)
end
end L2
namespace L2
open PySem PySem.Spec PyProof.Rows
def clsA (mg:Str->Option Value) (x:Str):Addr:=match mg x with | some (.ref a)=>a | _=>0
theorem Zep {X:Cx} {P:Program} {w:World} {base:Heap}:Passes (CXr P w base) X E0:=λ _ _ _ _ _ _ _ h=>by
 obtain ⟨_,_,_,_,_,_,_,z⟩:=h
 exact z.elim
section
variable {X:Cx} {pins:List (Addr×Obj)} {σ:St} {H:Hp} {s:Shared}
theorem Zh8 {M:Model} {A:Around} {E:Value->Shared->Prop} {i:Nat} {x:Str} {pos:Pos} {Q:Unit->Shared->Prop} (I:Inv X pins σ H s) (hN:X.N.Nodup) (hi:X.N[i]?=some x) (hk:X.env.scope.names.lookup x=some .local)
 (h:∀ s',Inv X pins (σ.set i none) H s'->Q () s'):wpAny M A (do bindName X.env x .none; unbindBehindTheSuite X.env x pos) Q E s:=by
 obtain ⟨m,hn,hl⟩:=id I.loc
 have hiσ:i<σ.length:=by rw [I.len]; exact (List.getElem?_eq_some_iff.mp hi).1
 have cne:=I.cne
 obtain ⟨oL,_,_,hoL,_⟩:=id hn
 refine wpAny_nameGoes_keeps hk hn (by rw [I.ok.kind]; rfl) λ h' v hn' hs=>?_
 have trk:HOk X.prog X.w H h':=λ b ob e=>by
  refine (I.hok b ob e).stay (λ c w' hc q=>(hs.2 c λ z=>?_).trans q) (λ _ q=>q) λ _ _ q=>q
  rcases hc with y | y
  · rw [← y,z,I.free] at e; cases e
  · rw [z,I.free] at y; cases y
 have up:∀ {b:Addr} {o:Obj},X.s₀.heap.get? b=some o->∀ {o':Obj},s.heap.get? b=some o'->h'.get? b=some o':=λ e _ q=>(hs.2 _ (Nat.ne_of_lt (Nat.lt_of_lt_of_le (Heap.lt_size e) I.ok.above))).trans q
 refine h _ ⟨I.ok,I.os,I.bare,⟨λ b o e n hb hx=>up e (I.base.keep b o e n hb hx),λ b o e n hb hx=>?_,I.base.free,λ b o e hx=>?_,I.base.tups,I.base.frzs,I.base.tbls⟩,⟨_,hn',λ j y v' e1 e2 e3=>?_⟩,λ y c e=>?_,I.free,I.freeC,λ p hp=>?_,trk,by simpa using I.len⟩
 · obtain ⟨sl,e1⟩:=I.base.slot b o e n hb hx
   exact ⟨sl,up e e1⟩
 · obtain ⟨o',e1⟩:=I.base.there b o e hx
   exact ⟨o',up e e1⟩
 · by_cases hj:j=i
   · subst hj
     rw [List.getElem?_set_self hiσ] at e2
     cases e2
   · rw [List.getElem?_set_ne (Ne.symm hj)] at e2
     obtain ⟨u',r',q⟩:=hl j y v' e1 e2 e3
     refine ⟨u',r',?_⟩
     rcases q with ⟨k,e⟩ | ⟨k,c,e,z⟩
     · have ne:y≠x:=λ e=>hj (Zi8 hN e1 (e ▸ hi))
       exact .inl ⟨k,by simp [ne,e]⟩
     · exact .inr ⟨k,c,e,z.sameBut hs (cne y c e)⟩
 · obtain ⟨w',z⟩:=I.cell y c e
   exact ⟨w',z.sameBut hs (cne y c e)⟩
 · obtain ⟨e,n,ne,nf,d⟩:=I.pin p hp
   exact ⟨(hs.2 p.1 ne).trans e,n,ne,nf,d⟩
end
section
variable {X:Cx} {k:Nat} {g x n:Str} {ps:List Str} {sp:Sp} {p np cpos epos hpos pos:Pos} {e:Expr} {es:List Expr} {t:TA} {ts:TS} {D:Addr} {b₀:Stmt} {suite:List Stmt} {i:Nat}
end
section
open PySem.W PySem.Calls
end
end L2
namespace L2
open PySem PySem.Spec PyProof.Rows PySem.W PySem.Calls PySem.Builtin PySem.Builtin.ObjectAttr PySem.Builtin.Getset_descriptor
structure ExF (K:Frag) (C:Addr):Prop where
 ga:findIn K (.ref C) "__getattribute__"=some (some (.builtin "BaseException.__getattribute__"))
 gn:findIn K (.ref C) "__getattr__"=some none
 be:mroIn K C (.type "BaseException")=some true
 at_:findIn K (.ref C) "__class__"=some (some (.builtin "object.__class__"))
 gt:specialIn K (.builtin "object.__class__") "__get__"=some (some (.builtin "getset_descriptor.__get__"))
 tk:takesIn K (.builtin "object.__class__")=some true
 ob:mroIn K C (.type "object")=some true
 cl:(clsIn K C).isSome=true
section
variable {prog:Program} {w:World} {A:Around} {E:Value->Shared->Prop} {s:Shared} {K:Frag} {x C:Addr} {ox:Obj}
theorem Zev {M:Model} {h:Heap} (he:h.get? x=some ox) (hc:ox.cls=.ref C):Looks M h (typeOf (.ref x)) (.ref C):=hc ▸ (Looks.ld he).andThen .now
theorem Zyp {M:Model} {h:Heap} (kin:K.In h) (Y:ExF K C):Looks M h (find (.ref x) (.ref C) "__class__") (.bind (.builtin "getset_descriptor.__get__") (.builtin "object.__class__")):=by
 have L3:=looks_takesIn (M:=M) kin Y.tk
 refine (looks_findIn (M:=M) kin Y.at_).andThen ((looks_specialIn (M:=M) kin Y.gt:Looks M h (getOf (some (.builtin "object.__class__"))) (some (.builtin "getset_descriptor.__get__"))).andThen ?_)
 exact (show Looks M h (dataDescriptor? (some (.builtin "object.__class__")) (some (.builtin "getset_descriptor.__get__"))) (some (.builtin "getset_descriptor.__get__",.builtin "object.__class__")) from L3.andThen .now).andThen (Looks.tag .now)
theorem Z0y {tp:Value} {R:Result->Shared->Prop} (kin:K.In s.heap) (he:s.heap.get? x=some ox) (hc:ox.cls=.ref C) (Y:ExF K C)
 (h:R (.ok (.ret (.ref C))) s):codeAny (model prog w) A (.call (.builtin "getset_descriptor.__get__") ⟨[.builtin "object.__class__",.ref x,tp],[]⟩) R s:=by
 obtain ⟨hh,g,dr,t,os⟩:=s
 have L0:=Zev (M:=model prog w) he hc
 have L1:=looks_mroIn (M:=model prog w) kin Y.ob
 refine codeAny_call_builtin KF.slot_gs.plain KF.entry_gs (KF.slot_gs.check _ _ _ _ _ _ _ _ KF.type_class (KF.args_gs _ _ _) ?_)
 unfold Builtin.«getset_descriptor.__get__» descrGet
 rw [dga_obj]; refine wpAny_bind (wpAny_pure ?_)
 unfold descrGetter descrCheckInstance descrNameAndClass isInstance; simp only [KF.owner_class]
 repeat lk
 refine ⟨Code.quiet_builtin _ (by decide +kernel),codeAny_builtin KF.entry_class ?_⟩
 unfold Builtin.«object.__class__» shownTypeOf; repeat lk
 exact h
theorem Zwz {tk:Tok} {Q:Fin->Shared->Prop} (kin:K.In s.heap) (he:s.heap.get? x=some ox) (hc:ox.cls=.ref C) (Y:ExF K C) (h:Q (.done (.ret (.ref C))) s) :
 wpAny (model prog w) A (Builtin.«object.__getattribute__» ⟨[.ref x,.str "__class__" tk],[]⟩) Q E s:=by
 obtain ⟨hh,g,d,t,os⟩:=s
 have L0:=Zev (M:=model prog w) he hc
 have L2:=Zyp (M:=model prog w) (x:=x) kin Y
 unfold Builtin.«object.__getattribute__»
 repeat (any_goals (first | assumption | (with_reducible refine wpAny_bind (L0.at ?_)) | (with_reducible refine wpAny_bind (L2.at ?_)) | wp_step))
 refine Z0y (s:=⟨hh,g,d,t,os⟩) kin he hc Y ?_
 repeat (any_goals (first | assumption | wp_step))
theorem Zw0 {M:Model} {nameV:Value} {Q:Unit->Shared->Prop} (kin:K.In s.heap) (he:s.heap.get? x=some ox) (hc:ox.cls=.ref C) (Y:ExF K C) (hq:Q () s):wpAny M A (checkBuiltinCall "BaseException.__getattribute__" ⟨[.ref x,nameV],[]⟩) Q E s:=by
 have hk:builtinKind "BaseException.__getattribute__"=some .slot:=by decide +kernel
 have hsplit:splitId "BaseException.__getattribute__"=some ("BaseException","__getattribute__"):=by decide +kernel
 have ha:=F.args_bexc_ga (.ref x) nameV
 have L0:=Zev (M:=M) he hc
 have L1:=looks_mroIn (M:=M) kin Y.be
 have LI:Looks M s.heap (isInstance (.ref x) (.type "BaseException")) true:=L0.andThen L1
 simp only [checkBuiltinCall,hk,hsplit]
 refine wpAny_bind (LI.at ?_)
 simp only [Bool.not_true,Bool.false_eq_true,if_false]
 repeat wp_step
 exact hq
theorem Z0z {Q:Option Value->Shared->Prop} (kin:K.In s.heap) (he:s.heap.get? x=some ox) (hc:ox.cls=.ref C) (Y:ExF K C) (h:Q (some (.ref C)) { s with toks:=s.toks+1 }) :
 wpAny (model prog w) A (getAttr? (.ref x) "__class__") Q E s:=by
 obtain ⟨hh,g,d,t,os⟩:=s
 have L0:=Zev (M:=model prog w) he hc
 have L1:=looks_findIn (M:=model prog w) kin Y.ga
 have L3:=looks_findIn (M:=model prog w) kin Y.gn
 have hx2:(Value.builtin "BaseException.__getattribute__" == Value.builtin "object.__getattribute__")=false:=by decide +kernel
 unfold getAttr? getAttrBy? getAttrBy
 refine wpAny_bind (wpAny_mkText (wpAny_bind (wpAny_attempt (wpAny_holding (wpAny_bind (L0.at (wpAny_bind (L1.at ?_))))))))
 dsimp only
 rw [hx2,Bool.and_false,if_neg Bool.false_ne_true]
 unfold getAttrByItsOwn
 refine wpAny_bind (L3.at ?_)
 have f3:=F.attrBase_ValueError.ga.bind (.ref x)
 have hx0:(false && onTheHeap (Value.builtin "BaseException.__getattribute__"))=false:=rfl
 unfold callGetattribute boundAndCalled
 repeat (any_goals (first | assumption | wp_step))
 refine codeAny_call_builtin F.attrBase_ValueError.ga.plain F.entry_bexc_ga (Zw0 (s:=⟨hh,g,d,t+1,os⟩) kin he hc Y (Zwz (s:=⟨hh,g,d,t+1,os⟩) kin he hc Y ?_))
 repeat (any_goals (first | assumption | wp_step))
theorem Zja {e:Addr} (Y:ExF K C):KitX K (.ref e) (.ref C) (ExP e C) where
 ty:=λ M h _ ⟨o,e1,e2⟩=>Zev e1 e2
 it:=λ M h kin _=>by
  have q:=Y.cl
  unfold clsIn at q
  split at q
  · rename_i c' d' cd' sl' ho
    intro A' Q' E' s' k z
    unfold isType loadHead; exact wpAny_bind (wpAny_loadPart (k _ _ (kin _ _ ho)) (wpAny_pure z))
  · cases q
 ne:=λ h tp dd its n sl kin htp=>by
  have q:=Y.cl
  refine Bool.eq_false_iff.mpr λ z=>?_
  have e:C=tp:=Value.ref.inj (beq_iff_eq.mp z)
  subst e
  unfold clsIn at q
  split at q
  · rename_i c' d' cd' sl' ho
    cases (kin _ _ ho).symm.trans htp
  · cases q
 ca:=λ kin ⟨o,e1,e2⟩ k=>Z0z kin e1 e2 Y k
end
theorem Zm8:∀ {cs:List Addr} {us:List Value},Vals (cs.map V.ref) us->us=cs.map Value.ref
 | [],_,h=>by cases h; rfl
 | c::cs,_,h=>by
   cases h with
   | cons r rr=>cases r; rw [Zm8 rr]; rfl
end L2
namespace L2
open PySem PySem.Spec PyProof.Rows
section
variable {P:Program} {w:World} {K:Fq} {mg:Str->Option Value} {base:Heap} {N ps:List Str} {qual:Str} {f:Addr}
end
theorem Gy {X:Cx} {x:Str} {C:Addr} {pos:Pos} (T:ExC X.K X.mg x C) (hg:Gl X x:=by rfl) (hd:(x == ("__debug__":Str))=false:=by decide):PE X (.Name x pos) (tC (.ref C)):=Zmp hg T.bound rfl hd
end L2
namespace L2
open PySem PySem.Spec PyProof.Rows
end L2
namespace L2
open PySem PySem.Spec PyProof.Rows
structure PB (X:Cx) (es:List Expr) (t:TA):Prop where
 ok:PA X es t
section
variable {X:Cx} {e a b:Expr} {es:List Expr} {te:TE} {t ta:TA} {p pos np cpos epos hpos tpos:Pos} {x n g:Str} {k i:Nat} {ps:List Str} {sp:Sp} {CX:CXT} {E:XK}
theorem Zf:PB X [] Zg:=⟨Z2a⟩
theorem Ze (ha:PE X e te) (hr:PB X es t) (h:Yp e=false:=by rfl):PB X (e::es) (Za te t):=⟨Z31 ha hr.ok h⟩
theorem Qc (h:PB X es t):PE X (.List es pos) (Xi t):=Z14 h.ok
theorem Eg {x1} (h:PB X es t):PE X (.Tuple es x1 pos) (Vt t):=Z13 h.ok
theorem Yd (G:Fn X.prog X.w X.K X.mg X.base CX x k ps sp) (hr:Room k X.A) (hg:Gl X x) (hx:Passes CX X E) (ha:PB X (e::es) t)
 (hdb:(x == ("__debug__":Str))=false:=by decide) (he:Yp e=false:=by rfl) (hpl:es.all (λ e=>!Yp e)=true:=by rfl):PE X (.Call (.Name x p) (e::es) [] pos) (Z7 sp [] E t):=Z3e G hr hg hx ha.ok hdb he hpl
theorem Yc {id:String} {r:List V->Hp->VK->Prop} (hc:CallR X (.builtin id) r) (hg:Gl X x) (hm:X.mg x=none) (hv:bootBuiltins x=some (.builtin id)) (ha:PB X (e::es) t) (hn:x≠"__name__":=by decide) (hdb:(x == ("__debug__":Str))=false:=by decide)
 (he:Yp e=false:=by rfl) (hpl:es.all (λ e=>!Yp e)=true:=by rfl):PE X (.Call (.Name x p) (e::es) [] pos) (tCB r t):=Z3f hc hg hm hv ha.ok hn hdb he hpl
theorem Qt {T:String} {r:List V->Hp->VK->Prop} (hc:CallR X (.type T) r) (hg:Gl X x) (hm:X.mg x=none) (hv:bootBuiltins x=some (.type T)) (ha:PB X (e::es) t) (hn:x≠"__name__":=by decide) (hdb:(x == ("__debug__":Str))=false:=by decide)
 (he:Yp e=false:=by rfl) (hpl:es.all (λ e=>!Yp e)=true:=by rfl):PE X (.Call (.Name x p) (e::es) [] pos) (tCB r t):=Z15 hc hg hm hv ha.ok hn hdb he hpl
theorem We {o:Expr} {to:TE} {name:Str} {apos:Pos} {T id:String} {r:V->List V->Hp->VK->Prop} (pa:PlainAttrs T) (slot:Slot T name id) (hty:typeOf (.builtin id)=pure (.type "method_descriptor")) (hm:MtR X id r) (ho:PE X o to) (ha:PB X [e] t)
 (he:Yp e=false:=by rfl) (hbase:attributeBase o name X.env (eval o X.env)=eval o X.env:=by rfl) (hline:(apos.endLine == cpos.line)=true:=by rfl):PE X (.Call (.Attribute o name apos) [e] [] cpos) (tBM X.K T r to t) :=
 Z16 pa slot hty hm ho ha.ok he hbase hline
theorem Qz {tg:Expr} (hg:Gl X "range") (hm:X.mg "range"=none) (ha:PB X [a] ta) (he:Yp a=false:=by rfl):PI X tg (.Call (.Name "range" p) [a] [] pos) (Wk ta):=Zvt hg hm ha.ok (Yq he)
theorem Zm2 {elts:List Expr} {x1} (hg:Gl X "zip") (hm:X.mg "zip"=none) (ha:PB X [a,b] ta) (he:Yp a=false:=by rfl) (hf:Yp b=false:=by rfl):PI X (.Tuple elts x1 tpos) (.Call (.Name "zip" p) [a,b] [] pos) (Zh7 X.K ta) :=
 Zz8 hg hm ha.ok (by rw [Yq he,Yq hf]; rfl) (by rw [Yq hf]; rfl)
theorem Wx {C:Addr} (hX:Made X E (.ref C)) (hc:X.calm=true) (T:ExC X.K X.mg x C) (hg:Gl X x) (ha:PB X (e::es) t) (hd:(x == ("__debug__":Str))=false:=by decide)
 (he:Yp e=false:=by rfl) (hpl:es.all (λ e=>!Yp e)=true:=by rfl):PS X (.Raise (some (.Call (.Name x np) (e::es) [] cpos)) none pos) (Wm E (.ref C) t):=Zx2 hX hc T hg ha.ok hd (Yq he) (Wf hpl)
end
end L2
namespace L2
open PySem PySem.Spec PyProof.Rows
section
variable {X:Cx} {tg:Expr}
end
end L2
namespace LB
open PySem L2
inductive IsI:Value->Bool->Prop
 | non:IsI (.type "NoneType") false
 | bl:IsI (.type "bool") false
 | int:IsI (.type "int") true
 | str:IsI (.type "str") false
 | lst:IsI (.type "list") false
 | tup:IsI (.type "tuple") false
 | dct:IsI (.type "dict") false
theorem Z0q {K:Fq} {t:Value} {b:Bool} (h:IsI t b):∃ c,PySem.W.kitOne K t (.type "int")=some c/\(c=false->b=false)/\(c=true->∃ d,PySem.W.kitOne K t (.type "bool")=some d/\b=!d):=by
 cases h
 · exact ⟨false,by kernel_rfl,λ _=>rfl,λ z=>by cases z⟩
 · exact ⟨true,by kernel_rfl,λ z=>(by cases z),λ _=>⟨true,by kernel_rfl,rfl⟩⟩
 · exact ⟨true,by kernel_rfl,λ z=>(by cases z),λ _=>⟨false,by kernel_rfl,rfl⟩⟩
 · exact ⟨false,by kernel_rfl,λ _=>rfl,λ z=>by cases z⟩
 · exact ⟨false,by kernel_rfl,λ _=>rfl,λ z=>by cases z⟩
 · exact ⟨false,by kernel_rfl,λ _=>rfl,λ z=>by cases z⟩
 · exact ⟨false,by kernel_rfl,λ _=>rfl,λ z=>by cases z⟩
def Znd (K:Fq) (a:V) (H:Hp) (Q:VK) (E:XK):Prop:=∃ t b,TyOf K H a t/\IsI t b/\Q (.bl b) H
def G8 (K:Fq):Sp:=sp1 (Znd K)
def Za6 (ns:List Int) (k:Nat):Int :=
 if k<ns.length then (ns.getD k 0+104729)*2718281828459045235360287471352662497757 % 10000000000000000000000000000000000000000
 else
  let n:Int:=(k:Int)*k*7919+5+(if 0<ns.length then ns.getD (k*7 % ns.length) 0 % 10000000000000000000000000000000000000000*48271 else 0)
  n*n % 2147483629*2718281828459045235360287471352662497757 % 10000000000000000000000000000000000000000
theorem Zrl (ns:List Int) (k:Nat):0<=Za6 ns k:=by unfold Za6; dsimp only; split <;> exact Int.emod_nonneg _ (by decide)
theorem Zrm (ns:List Int) (k:Nat):Za6 ns k<10000000000000000000000000000000000000000:=by unfold Za6; dsimp only; split <;> exact Int.emod_lt_of_pos _ (by decide)
def Zha (K:Fq) (a b:V) (H:Hp) (Q:VK) (E:XK):Prop:=∃ (l:Addr) (ns:List Int) (k:Nat),a=.ref l/\b=.int k/\SqL K H l (ns.map V.int)/\(∀ n∈ns,Builtin.Int.intBits n<=1048576)/\k<=1000/\Q (.int (Za6 ns k)) H
def Wn (K:Fq):Sp:=sp2 (Zha K)
def Zgu (K:Fq):TS :=
 (Zz (U6 (tCB (rIsinst K) (Za (Zc 0) (Za (tC (.ty "int")) Zg))) (Zou (tCB (rIsinst K) (Za (Zc 0) (Za (tC (.ty "bool")) Zg))))))
def Zbm (K:Fq):TS :=
 (Zv (Y0 (Y4 (tOp rLtU (Zc 1) (tCB (rLenU K) (Za (Zc 0) Zg)))) (Zz (tOp rModU (tOp (rMulU K) (tOp (rAddU K) (tOp (rIx K) (Zc 0) (Zc 1)) (tC (.int 104729))) (tC (.int 2718281828459045235360287471352662497757))) (tC (.int 10000000000000000000000000000000000000000)))) Yl)
  (Zv (Z6 (tOp (rAddU K) (tOp (rMulU K) (tOp (rMulU K) (Zc 1) (Zc 1)) (tC (.int 7919))) (tC (.int 5))) (Zt 2))
  (Zv (Y0 (Y4 (tOp rGtU (tCB (rLenU K) (Za (Zc 0) Zg)) (tC (.int 0)))) (Z6 (tOp (rAddU K) (Zc 2) (tOp (rMulU K) (tOp rModU (tOp (rIx K) (Zc 0) (tOp rModU (tOp (rMulU K) (Zc 1) (tC (.int 7))) (tCB (rLenU K) (Za (Zc 0) Zg)))) (tC (.int 10000000000000000000000000000000000000000))) (tC (.int 48271)))) (Zt 2)) Yl)
  (Zz (tOp rModU (tOp (rMulU K) (tOp rModU (tOp (rMulU K) (Zc 2) (Zc 2)) (tC (.int 2147483629))) (tC (.int 2718281828459045235360287471352662497757))) (tC (.int 10000000000000000000000000000000000000000)))))))
abbrev Rt (Q:VK):Ends:={ nx:=λ _ H'=>Q .non H',rt:=Q }
theorem Zvk {K:Fq} {a:V} {H:Hp} {Q:VK} {E:XK} (h:Znd K a H Q E):Zgu K (Rt Q) [some a] H:=by
 obtain ⟨t,b,ty,hi,q⟩:=h
 obtain ⟨c,e,h1,h2⟩:=Z0q (K:=K) hi
 unfold Zgu
 refine Z4 (Ui (Ye (Zb (Zd rfl (Zb (w_c (Zh ?_)))))))
 refine ⟨a,"int",t,c,rfl,ty,e,Xc ?_⟩
 refine iteB (λ z=>?_) (λ z=>?_)
 · obtain ⟨d,e2,hb⟩:=h2 z
   refine Zu2 (Ye (Zb (Zd rfl (Zb (w_c (Zh ?_))))))
   refine ⟨a,"bool",t,d,rfl,ty,e2,Xc ?_⟩
   rw [← hb]; exact q
 · rw [← h1 z]; exact q
theorem Zy0 {n:Int} (h:Builtin.Int.intBits n<=1048576):Builtin.Int.intBits (n+104729)<=1048600:=by
 have h1:n.natAbs<2 ^ 1048576:=by
  unfold Builtin.Int.intBits at h
  split at h
  · rename_i e
    have:n=0:=by simpa using e
    subst this
    exact Nat.two_pow_pos _
  · rename_i e
    have h0:n.natAbs≠0:=λ z=>e (by simp; omega)
    exact (Nat.log2_lt h0).mp (by omega)
 unfold Builtin.Int.intBits
 split
 · omega
 · rename_i e
   have h0:(n+104729).natAbs≠0:=λ z=>e (by simp; omega)
   have h2:(n+104729).natAbs<2 ^ 1048599:=by
    have e1:(2:Nat) ^ 1048599=2 ^ 1048576*2 ^ 23:=by rw [← Nat.pow_add]
    have e2:(2:Nat) ^ 23=8388608:=by decide
    have e3:1<=(2:Nat) ^ 1048576:=Nat.one_le_two_pow
    rw [e1,e2]
    generalize (2:Nat) ^ 1048576=z at h1 e3 ⊢
    omega
   have:=(Nat.log2_lt h0).mpr h2
   omega
theorem Zyu {n:Int} (h:Builtin.Int.intBits n<=1048576):IntMulOk (n+104729) 2718281828459045235360287471352662497757 :=
 IntMulOk.of_le (Zy0 h) (Zht (by decide) (by decide)) (by decide)
theorem Zp7 {K:Fq} {a b:V} {H:Hp} {Q:VK} {E:XK} (h:Zha K a b H Q E):Zbm K (Rt Q) [some a,some b,none] H:=by
 obtain ⟨l,ns,k,rfl,rfl,hl,hb,hk,q⟩:=h
 unfold Zbm
 refine Zu (Yv (Xe (Zk (Zd rfl (Ye (Zb (Zd rfl (Zh (Ji hl (Ztg (Xc ?_)))))))))))
 rw [List.length_map]
 refine iteD (λ hlt=>?_) (λ hge=>?_)
 · have hlt':k<ns.length:=by omega
   refine Z4 (Zk (Zk (Zk (Zk (Zd rfl (Zd rfl (Yo hl (Zyy (by omega) hlt) (w_c (X8 (w_c (Jc ?_ (w_c (Y5 (by decide) ?_)))))))))))))
   · exact Zyu (hb _ (by rw [Int.toNat_natCast]; exact L2.Zjd hlt'))
   · unfold Za6 at q
     rw [if_pos hlt'] at q
     rw [Int.toNat_natCast]; exact q
 · have hge':¬ k<ns.length:=by omega
   unfold Za6 at q
   rw [if_neg hge'] at q
   dsimp only at q
   have kk:(k:Int)<=1000:=by omega
   have kn:(0:Int)<=k:=by omega
   have k2:(k:Int)*k<=1000*1000:=Int.mul_le_mul kk kk kn (by decide)
   have k3:0<=(k:Int)*k:=Int.mul_nonneg kn kn
   refine Ys (Zu (Z0 (Zk (Zk (Zk (Zd rfl (Zd rfl (Jc (W7 (by omega) (by omega)) (w_c (Jc (Zh5 (by decide) (by decide)) (w_c (X8 (Zw ?_)))))))))))))
   have fin:∀ N:Int,0<=N->N<=1000000000000000000000000000000000000000000000000000->N*N % 2147483629*2718281828459045235360287471352662497757 % 10000000000000000000000000000000000000000=N*N % 2147483629*2718281828459045235360287471352662497757 % 10000000000000000000000000000000000000000 ->
    Q (.int (N*N % 2147483629*2718281828459045235360287471352662497757 % 10000000000000000000000000000000000000000)) H ->
    (Zz (tOp rModU (tOp (rMulU K) (tOp rModU (tOp (rMulU K) (Zc 2) (Zc 2)) (tC (.int 2147483629))) (tC (.int 2718281828459045235360287471352662497757))) (tC (.int 10000000000000000000000000000000000000000)))) (Rt Q) [some (.ref l),some (.int k),some (.int N)] H:=by
    intro N h0 h1 _ hq
    have r0:=Int.emod_nonneg (N*N) (show (2147483629:Int)≠0 by decide)
    have r1:=Int.emod_lt_of_pos (N*N) (show (0:Int)<2147483629 by decide)
    refine Z4 (Zk (Zk (Zk (Zk (Zd rfl (Zd rfl (Jc (Zv4 (by omega) (by omega) (by omega) (by omega)) (w_c (Y5 (by decide) (w_c (Jc (W7 (by omega) (by omega)) (w_c (Y5 (by decide) ?_)))))))))))))
    exact hq
   refine Zu (Yv (Xe (Zk (Ye (Zb (Zd rfl (Zh (Ji hl (w_c (Zth (Xc ?_)))))))))))
   rw [List.length_map]
   refine iteD (λ hp=>?_) (λ hz=>?_)
   · have hp':0<ns.length:=by omega
     rw [if_pos hp'] at q
     refine Z0 (Zk (Zd rfl (Zk (Zk (Zk (Zd rfl (Zk (Zk (Zd rfl (w_c (Jc (Zh5 (by decide) (by decide)) (Ye (Zb (Zd rfl (Zh (Ji hl (Y5 ?_ (Yo (v:=.int (ns.getD (k*7 % ns.length) 0)) hl ?_ (w_c (Y5 (by decide) (w_c (Jc (Zh5 (by decide) (by decide)) (X8 (Zw ?_))))))))))))))))))))))))
     · rw [List.length_map]; omega
     · rw [List.length_map]
       have e:(k:Int)*7 % (ns.length:Int)=((k*7 % ns.length:Nat):Int):=by simp
       rw [e]
       exact Vh (Ux (Nat.mod_lt _ hp'))
     · have r0:=Int.emod_nonneg (ns.getD (k*7 % ns.length) 0) (show (10000000000000000000000000000000000000000:Int)≠0 by decide)
       have r1:=Int.emod_lt_of_pos (ns.getD (k*7 % ns.length) 0) (show (0:Int)<10000000000000000000000000000000000000000 by decide)
       exact fin _ (by omega) (by omega) rfl q
   · have hz':¬ 0<ns.length:=by omega
     rw [if_neg hz'] at q
     rw [Int.add_zero] at q
     exact Ys (fin _ (by omega) (by omega) rfl q)
theorem at2 {a b:V} {i:Int} (h0:0<=i) (h1:i<2):∃ v,atI [a,b] i=some v/\(v=a\/v=b):=by
 rcases (by omega:i=0\/i=1) with rfl | rfl
 · exact ⟨a,rfl,.inl rfl⟩
 · exact ⟨b,rfl,.inr rfl⟩
end LB
namespace LB
open PySem L2
def Z2s:PyData->Bool | .int _=>true | _=>false
def Jq (lo hi:Nat):PyData->Bool | .tuple xs=>decide (lo<=xs.length) && decide (xs.length<=hi) | _=>false
def Zco:PyData->Bool | .int i=>decide (1<=i) && decide (i<=1000000000) | _=>false
def Zcp:PyData->Bool | .int i=>decide (0<=i) && decide (i<=1000000000000000000) | _=>false
def posD:PyData->Bool | .int i=>decide (0<i) | _=>false
def Qq:PyData->List PyData | .tuple xs=>xs | _=>[]
def Qe (d:PyData):Bool:=Jq 1 6 d && (Qq d).all Zco
def Wh (d:PyData):Bool:=Jq 1 6 d && (Qq d).all Zcp && (Qq d).any posD
def Qs (d:PyData):Bool:=Jq 2 2 d && Qe ((Qq d).getD 0 .none) && Wh ((Qq d).getD 1 .none) && decide ((Qq ((Qq d).getD 0 .none)).length=(Qq ((Qq d).getD 1 .none)).length)
def Ja (d:PyData):Nat:=(Qq ((Qq d).getD 0 .none)).length
def Xo (d:PyData):Bool:=Jq 1 8 d && (Qq d).all Qs && (Qq d).all λ e=>decide (Ja e=Ja ((Qq d).getD 0 .none))
theorem Zwj (d:PyData):IsI (tyD d) (Z2s d):=by cases d <;> constructor
def Zik (K:Fq) (a b c:V) (H:Hp) (Q:VK) (E:XK):Prop:=∃ (d:PyData) (lo hi:Nat),Rep H a d/\b=.int lo/\c=.int hi/\Q (.bl (Jq lo hi d)) H
def Q9 (K:Fq):Sp:=sp3 (Zik K)
def Zil (K:Fq) (a:V) (H:Hp) (Q:VK) (E:XK):Prop:=∃ d:PyData,Rep H a d/\Q (.bl (Zco d)) H
def Zdn (K:Fq):Sp:=sp1 (Zil K)
def Zg6 (K:Fq) (a:V) (H:Hp) (Q:VK) (E:XK):Prop:=∃ d:PyData,Rep H a d/\Q (.bl (Zcp d)) H
def Zbt (K:Fq):Sp:=sp1 (Zg6 K)
def Zgc (K:Fq) (a:V) (H:Hp) (Q:VK) (E:XK):Prop:=∃ d:PyData,Rep H a d/\∀ H',Same H H'->Q (.bl (Qe d)) H'
def Eu (K:Fq):Sp:=sp1 (Zgc K)
def Zeg (K:Fq) (a:V) (H:Hp) (Q:VK) (E:XK):Prop:=∃ d:PyData,Rep H a d/\∀ H',Same H H'->Q (.bl (Wh d)) H'
def Ht (K:Fq):Sp:=sp1 (Zeg K)
def Zne (K:Fq) (a:V) (H:Hp) (Q:VK) (E:XK):Prop:=∃ d:PyData,Rep H a d/\∀ H',Same H H'->Q (.bl (Qs d)) H'
def G9 (K:Fq):Sp:=sp1 (Zne K)
def Zj5 (K:Fq) (a:V) (H:Hp) (Q:VK) (E:XK):Prop:=∃ d:PyData,Rep H a d/\∀ H',Same H H'->Q (.bl (Xo d)) H'
def Zff (K:Fq):Sp:=sp1 (Zj5 K)
def Zdh (K:Fq):TS :=
 (Zz (U6 (tCB (rIsinst K) (Za (Zc 0) (Za (tC (.ty "tuple")) Zg))) (Vu rLeU rLeU (Zc 1) (tCB (rLenU K) (Za (Zc 0) Zg)) (Zc 2))))
def Zdi (K:Fq):TS :=
 (Zz (U6 (Z7 (G8 K) [] E0 (Za (Zc 0) Zg)) (Vu rLeU rLeU (tC (.int 1)) (Zc 0) (tC (.int 1000000000)))))
def Zbi (K:Fq):TS :=
 (Zz (U6 (Z7 (G8 K) [] E0 (Za (Zc 0) Zg)) (Vu rLeU rLeU (tC (.int 0)) (Zc 0) (tC (.int 1000000000000000000)))))
def En (K:Fq):TS :=
 (Zz (U6 (Z7 (Q9 K) [] E0 (Za (Zc 0) (Za (tC (.int 1)) (Za (tC (.int 6)) Zg)))) (tCB (rAllU K) (Za (Xq [none] (iSeq K (Zc 0)) (Zt 0) Qa (Z7 (Zdn K) [] E0 (Za (Zc 0) Zg))) Zg))))
def Hl (K:Fq):TS :=
 (Zv (Y0 (tOr (Kf (Ua K (Z7 (Q9 K) [] E0 (Za (Zc 0) (Za (tC (.int 1)) (Za (tC (.int 6)) Zg)))))) (Kf (Ua K (tCB (rAllU K) (Za (Xq [none] (iSeq K (Zc 0)) (Zt 0) Qa (Z7 (Zbt K) [] E0 (Za (Zc 0) Zg))) Zg))))) (Zz (tC (.bl false))) Yl)
  (Zz (tCB (rAnyU K) (Za (Xq [none] (iSeq K (Zc 0)) (Zt 0) Qa (tOp rGtU (Zc 0) (tC (.int 0)))) Zg))))
def Zgv (K:Fq):TS :=
 (Zv (Y0 (Kf (Ua K (Z7 (Q9 K) [] E0 (Za (Zc 0) (Za (tC (.int 2)) (Za (tC (.int 2)) Zg)))))) (Zz (tC (.bl false))) Yl)
  (Zv (Z6 (tOp (rIx K) (Zc 0) (tC (.int 0))) (Zt 1))
  (Zv (Z6 (tOp (rIx K) (Zc 0) (tC (.int 1))) (Zt 2))
  (Zz (U6 (Z7 (Eu K) [] E0 (Za (Zc 1) Zg)) (U6 (Z7 (Ht K) [] E0 (Za (Zc 2) Zg)) (tOp (rEqU K) (tCB (rLenU K) (Za (Zc 1) Zg)) (tCB (rLenU K) (Za (Zc 2) Zg)))))))))
def Zfb (K:Fq):TS :=
 (Zv (Y0 (tOr (Kf (Ua K (Z7 (Q9 K) [] E0 (Za (Zc 0) (Za (tC (.int 1)) (Za (tC (.int 8)) Zg)))))) (Kf (Ua K (tCB (rAllU K) (Za (Xq [none] (iSeq K (Zc 0)) (Zt 0) Qa (Z7 (G9 K) [] E0 (Za (Zc 0) Zg))) Zg))))) (Zz (tC (.bl false))) Yl)
  (Zv (Z6 (tCB (rLenU K) (Za (tOp (rIx K) (tOp (rIx K) (Zc 0) (tC (.int 0))) (tC (.int 0))) Zg)) (Zt 1))
  (Zz (tCB (rAllU K) (Za (Xq [none,some 1] (iSeq K (Zc 0)) (Zt 0) Qa (tOp (rEqU K) (tCB (rLenU K) (Za (tOp (rIx K) (Zc 0) (tC (.int 0))) Zg)) (Zc 1))) Zg)))))
theorem Zyg {K:Fq} (d:PyData):∃ b,PySem.W.kitOne K (tyD d) (.type "tuple")=some b/\(b=true->∃ xs,d=.tuple xs)/\(b=false->∀ lo hi,Jq lo hi d=false):=by
 cases d with
 | tuple xs=>exact ⟨true,by kernel_rfl,λ _=>⟨xs,rfl⟩,λ z=>by cases z⟩
 | none=>exact ⟨false,by kernel_rfl,λ z=>(by cases z),λ _ _ _=>rfl⟩
 | bool _=>exact ⟨false,by kernel_rfl,λ z=>(by cases z),λ _ _ _=>rfl⟩
 | int _=>exact ⟨false,by kernel_rfl,λ z=>(by cases z),λ _ _ _=>rfl⟩
 | str _=>exact ⟨false,by kernel_rfl,λ z=>(by cases z),λ _ _ _=>rfl⟩
 | list _=>exact ⟨false,by kernel_rfl,λ z=>(by cases z),λ _ _ _=>rfl⟩
 | dict _=>exact ⟨false,by kernel_rfl,λ z=>(by cases z),λ _ _ _=>rfl⟩
theorem Zr3 {K:Fq} {a b c:V} {H:Hp} {Q:VK} {E:XK} (h:Zik K a b c H Q E):Zdh K (Rt Q) [some a,some b,some c] H:=by
 obtain ⟨d,lo,hi,r,rfl,rfl,q⟩:=h
 obtain ⟨k,e,h1,h2⟩:=Zyg (K:=K) d
 unfold Zdh
 refine Z4 (Ui (Ye (Zb (Zd rfl (Zb (w_c (Zh ?_)))))))
 refine ⟨a,"tuple",_,k,rfl,r.ty,e,Xc (iteB (λ z=>?_) λ z=>?_)⟩
 · obtain ⟨xs,rfl⟩:=h1 z
   unfold Rep at r
   obtain ⟨p,ys,rfl,hp,rs⟩:=r
   have hl:=rs.length
   refine Za7 (Zd rfl (Ye (Zb (Zd rfl (Zh (Vj (SqT.of hp) (Vk (Xc ?_))))))))
   have e1:Jq lo hi (.tuple xs)=(decide ((lo:Int)<=(ys.length:Int)) && decide ((ys.length:Int)<=(hi:Int))):=by
    show (decide (lo<=xs.length) && decide (xs.length<=hi))=_
    rw [← hl]
    congr 1 <;> simp only [Int.ofNat_le]
   rw [e1] at q
   refine iteB (λ z=>?_) λ z=>?_
   · refine Zd rfl (Vk ?_)
     rw [z,Bool.true_and] at q; exact q
   · rw [z,Bool.false_and] at q; exact q
 · rw [h2 z] at q; exact q
theorem Zr4 {K:Fq} {a:V} {H:Hp} {Q:VK} {E:XK} (h:Zil K a H Q E):Zdi K (Rt Q) [some a] H:=by
 obtain ⟨d,r,q⟩:=h
 unfold Zdi
 refine Z4 (Ui (Z5 (Zb (Zd rfl (Zh ⟨_,rfl,_,_,r.ty,Zwj d,Xc ?_⟩)))))
 cases d with
 | int i =>
   unfold Rep at r
   subst r
   refine iteT (Za7 (w_c (Zd rfl (Vk (Xc (iteB (λ z=>?_) λ z=>?_))))))
   · refine w_c (Vk ?_)
     have q:Q (.bl (decide (1<=i) && decide (i<=1000000000))) H:=q
     rw [z,Bool.true_and] at q; exact q
   · have q:Q (.bl (decide (1<=i) && decide (i<=1000000000))) H:=q
     rw [z,Bool.false_and] at q; exact q
 | none=>exact iteF q
 | bool _=>exact iteF q
 | str _=>exact iteF q
 | list _=>exact iteF q
 | tuple _=>exact iteF q
 | dict _=>exact iteF q
theorem Zp3 {K:Fq} {a:V} {H:Hp} {Q:VK} {E:XK} (h:Zg6 K a H Q E):Zbi K (Rt Q) [some a] H:=by
 obtain ⟨d,r,q⟩:=h
 unfold Zbi
 refine Z4 (Ui (Z5 (Zb (Zd rfl (Zh ⟨_,rfl,_,_,r.ty,Zwj d,Xc ?_⟩)))))
 cases d with
 | int i =>
   unfold Rep at r
   subst r
   refine iteT (Za7 (w_c (Zd rfl (Vk (Xc (iteB (λ z=>?_) λ z=>?_))))))
   · refine w_c (Vk ?_)
     have q:Q (.bl (decide (0<=i) && decide (i<=1000000000000000000))) H:=q
     rw [z,Bool.true_and] at q; exact q
   · have q:Q (.bl (decide (0<=i) && decide (i<=1000000000000000000))) H:=q
     rw [z,Bool.false_and] at q; exact q
 | none=>exact iteF q
 | bool _=>exact iteF q
 | str _=>exact iteF q
 | list _=>exact iteF q
 | tuple _=>exact iteF q
 | dict _=>exact iteF q
theorem G6 {lo hi:Nat} {d:PyData} (h:Jq lo hi d=true):∃ xs,d=.tuple xs/\lo<=xs.length/\xs.length<=hi:=by
 cases d with
 | tuple xs =>
   have h':(decide (lo<=xs.length) && decide (xs.length<=hi))=true:=h
   rw [Bool.and_eq_true] at h'
   exact ⟨xs,rfl,of_decide_eq_true h'.1,of_decide_eq_true h'.2⟩
 | none=>cases h
 | bool _=>cases h
 | int _=>cases h
 | str _=>cases h
 | list _=>cases h
 | dict _=>cases h
theorem Z22 {ds:List PyData} {bs:List Bool} {f:PyData->Bool} (hl:bs.length=ds.length) (h:∀ (i:Nat) b,bs[i]?=some b->∃ d,ds[i]?=some d/\b=f d):bs=ds.map f:=by
 apply List.ext_getElem?
 intro i
 rw [List.getElem?_map]
 cases e:bs[i]? with
 | none =>
   have:ds[i]?=none:=List.getElem?_eq_none_iff.mpr (by have:=List.getElem?_eq_none_iff.mp e; omega)
   rw [this]; rfl
 | some b =>
   obtain ⟨d,e1,e2⟩:=h i b e
   rw [e1,e2]; rfl
theorem Zcc {K:Fq} {H:Hp} {σ:St} {p:Addr} {xs:List V} {ds:List PyData} {l:List (Option Nat)} {te:TE} {σr:St} {n:Nat} {Q:VK} (f:PyData->Bool) (hσ:σ[n]?=some (some (.ref p))) (hp:H p=some (.tup xs)) (rs:Reps H xs ds) (hz:ds.length<=8) (hini:∃ r0,X5 l σ=r0::σr)
 (hs:∀ (i:Nat) x d H1 (R:VK),xs[i]?=some x->ds[i]?=some d->Same H H1->Rep H1 x d->(∀ H2,Same H1 H2->R (.bl (f d)) H2)->te (some x::σr) H1 R)
 (q:∀ D H',H D=none->Same H H'->H' D=some (.lst ((ds.map f).map V.bl))->Q (.ref D) H') :
 Xq l (iSeq K (Zc n)) (Zt 0) Qa te σ H Q:=by
 have hl:=rs.length
 refine Jk (Vi (Zd hσ (⟨_,rfl,.inr ⟨⟨_,SqT.of hp⟩,λ D hD=>?_⟩⟩)))
 refine Uz (K:=K) (a:=p) (.inl ⟨rfl,hp⟩) D (λ i v _=>∃ d,ds[i]?=some d/\v=.bl (f d)) (λ _ _ _ _ _ z=>z) (by omega) hD hini (λ i x H1 R hi s1 k=>?_) (λ ys H1 hy hall s1 hD1=>?_)
 · obtain ⟨d,hd,rd⟩:=rs.get hi
   exact hs i x d H1 R hi hd s1 (Rep.mono s1 d x rd) λ H2 s2=>k _ H2 s2 ⟨d,hd,rfl⟩
 · obtain ⟨bs,e,hb⟩:=Z1d (P:=λ i b=>∃ d,ds[i]?=some d/\b=f d) (λ i v hv=>by obtain ⟨d,h1,h2⟩:=hall i v hv; exact ⟨f d,h2,d,h1,rfl⟩)
   have e2:bs=ds.map f:=Z22 (by have:=congrArg List.length e; simp at this; omega) hb
   subst e e2
   exact q D H1 hD s1 hD1
theorem Zlr (ds:List PyData) (f:PyData->Bool):(ds.map f).all id=ds.all f:=by
 induction ds with
 | nil=>rfl
 | cons d ds ih=>simp only [List.map_cons,List.all_cons,id,ih]
theorem Z21 (ds:List PyData) (f:PyData->Bool):(ds.map f).any id=ds.any f:=by
 induction ds with
 | nil=>rfl
 | cons d ds ih=>simp only [List.map_cons,List.any_cons,id,ih]
theorem Zn5 {K:Fq} {a:V} {H:Hp} {Q:VK} {E:XK} (h:Zgc K a H Q E):En K (Rt Q) [some a] H:=by
 obtain ⟨d,r,q⟩:=h
 unfold En
 refine Z4 (Ui (Z5 (Zb (Zd rfl (Zb (w_c (Zb (w_c (Zh ⟨_,_,_,rfl,d,1,6,r,rfl,rfl,Xc ?_⟩)))))))))
 refine iteB (λ z=>?_) λ z=>?_
 · obtain ⟨ds,rfl,h1,h2⟩:=G6 z
   unfold Rep at r
   obtain ⟨p,xs,rfl,hp,rs⟩:=r
   refine Ye (Zb (Zcc Zco rfl hp rs (by omega) ⟨_,rfl⟩ (λ i x d H1 R hi hd s1 rd k=>?_) λ D H1 hD s1 hD1=>Zh (Zbb (.inl (SqL.of hD1)) ?_)))
   · exact Z5 (Zb (Zd rfl (Zh ⟨_,rfl,d,rd,k _ (Same.refl _)⟩)))
   · rw [Zlr]
     have:=q H1 s1
     unfold Qe at this
     rw [z,Bool.true_and] at this; exact this
 · have:=q H (Same.refl _)
   unfold Qe at this
   rw [z,Bool.false_and] at this; exact this
theorem Zmc {K:Fq} {a:V} {H:Hp} {Q:VK} {E:XK} (h:Zeg K a H Q E):Hl K (Rt Q) [some a] H:=by
 obtain ⟨d,r,q⟩:=h
 unfold Hl
 refine Zu (Yv (Zo8 (w_not (Wu (Z5 (Zb (Zd rfl (Zb (w_c (Zb (w_c (Zh ⟨_,_,_,rfl,d,1,6,r,rfl,rfl,Jh ?_⟩))))))))))))
 cases z:Jq 1 6 d with
 | false =>
   refine iteT (iteT (Z4 (w_c ?_)))
   have:=q H (Same.refl _)
   unfold Wh at this
   rw [z,Bool.false_and,Bool.false_and] at this; exact this
 | true =>
   obtain ⟨ds,rfl,h1,h2⟩:=G6 z
   unfold Rep at r
   obtain ⟨p,xs,rfl,hp,rs⟩:=r
   refine iteF (w_not (Wu (Ye (Zb (Zcc Zcp rfl hp rs (by omega) ⟨_,rfl⟩ (λ i x d H1 R hi hd s1 rd k=>?_) λ D H1 hD s1 hD1=>Zh (Zbb (.inl (SqL.of hD1)) (Jh ?_)))))))
   · exact Z5 (Zb (Zd rfl (Zh ⟨_,rfl,d,rd,k _ (Same.refl _)⟩)))
   · rw [Zlr]
     have qa:∀ H',Same H H'->Q (.bl (ds.all Zcp && ds.any posD)) H':=λ H' s=>by
      have:=q H' s
      unfold Wh at this
      rw [z,Bool.true_and] at this; exact this
     cases y:ds.all Zcp with
     | false =>
       refine iteT (Z4 (w_c ?_))
       have:=qa H1 s1
       rw [y,Bool.false_and] at this; exact this
     | true =>
       refine iteF (Ys (Z4 (Ye (Zb (Zcc posD rfl (s1 _ _ hp) (Reps.mono s1 _ _ rs) (by omega) ⟨_,rfl⟩ (λ i x d H2 R hi hd s2 rd k=>?_) λ D2 H2 hD2 s2 hD3=>Zh (Z1q (.inl (SqL.of hD3)) ?_))))))
       · have hd':=List.all_eq_true.mp y d (List.mem_of_getElem? hd)
         cases d with
         | int i =>
           unfold Rep at rd
           subst rd
           exact Zk (Zd rfl (w_c (Zth (k _ (Same.refl _)))))
         | none=>cases hd'
         | bool _=>cases hd'
         | str _=>cases hd'
         | list _=>cases hd'
         | tuple _=>cases hd'
         | dict _=>cases hd'
       · rw [Z21]
         have:=qa H2 (s1.trans s2)
         rw [y,Bool.true_and] at this; exact this
theorem Zvl {K:Fq} {a:V} {H:Hp} {Q:VK} {E:XK} (h:Zne K a H Q E):Zgv K (Rt Q) [some a,none,none] H:=by
 obtain ⟨d,r,q⟩:=h
 unfold Zgv
 refine Zu (Yv (w_not (Wu (Z5 (Zb (Zd rfl (Zb (w_c (Zb (w_c (Zh ⟨_,_,_,rfl,d,2,2,r,rfl,rfl,Jh ?_⟩)))))))))))
 cases z:Jq 2 2 d with
 | false =>
   refine iteT (Z4 (w_c ?_))
   have:=q H (Same.refl _)
   unfold Qs at this
   rw [z,Bool.false_and,Bool.false_and,Bool.false_and] at this; exact this
 | true =>
   obtain ⟨ds,rfl,h1,h2⟩:=G6 z
   match ds,h1,h2 with
   | [d0,d1],_,_ =>
   unfold Rep at r
   obtain ⟨p,xs,rfl,hp,rs⟩:=r
   unfold Reps at rs
   obtain ⟨x0,r1,rfl,rd0,rs⟩:=rs
   unfold Reps at rs
   obtain ⟨x1,r2,rfl,rd1,rs⟩:=rs
   unfold Reps at rs
   subst rs
   have qa:∀ H',Same H H'->Q (.bl (Qe d0 && Wh d1 && decide ((Qq d0).length=(Qq d1).length))) H':=λ H' s=>by
    have:=q H' s
    unfold Qs at this
    rw [z,Bool.true_and] at this; exact this
   refine iteF (Ys (Zu (Z0 (Zk (Zd rfl (w_c (Xx (SqT.of hp) (v:=x0) rfl (Zw ?_))))))))
   refine Zu (Z0 (Zk (Zd rfl (w_c (Xx (SqT.of hp) (v:=x1) rfl (Zw ?_))))))
   refine Z4 (Ui (Z5 (Zb (Zd rfl (Zh ⟨_,rfl,d0,rd0,λ H1 s1=>Xc ?_⟩)))))
   cases y:Qe d0 with
   | false =>
     refine iteF ?_
     have:=qa H1 s1
     rw [y,Bool.false_and,Bool.false_and] at this; exact this
   | true =>
     refine iteT (Ui (Z5 (Zb (Zd rfl (Zh ⟨_,rfl,d1,Rep.mono s1 _ _ rd1,λ H2 s2=>Xc ?_⟩)))))
     have s12:=s1.trans s2
     cases x:Wh d1 with
     | false =>
       refine iteF ?_
       have:=qa H2 s12
       rw [y,x,Bool.true_and,Bool.false_and] at this; exact this
     | true =>
       have t0:Jq 1 6 d0=true:=by unfold Qe at y; rw [Bool.and_eq_true] at y; exact y.1
       have t1:Jq 1 6 d1=true:=by unfold Wh at x; rw [Bool.and_eq_true,Bool.and_eq_true] at x; exact x.1.1
       obtain ⟨e0,rfl,_,_⟩:=G6 t0
       obtain ⟨e1,rfl,_,_⟩:=G6 t1
       have rd0':=Rep.mono s12 _ _ rd0
       have rd1':=Rep.mono s12 _ _ rd1
       unfold Rep at rd0' rd1'
       obtain ⟨p0,ys0,rfl,hp0,rs0⟩:=rd0'
       obtain ⟨p1,ys1,rfl,hp1,rs1⟩:=rd1'
       refine iteT (Zk (Ye (Zb (Zd rfl (Zh (Vj (SqT.of hp0) (Ye (Zb (Zd rfl (Zh (Vj (SqT.of hp1) (Qm ?_))))))))))))
       have:=qa H2 s12
       rw [y,x,Bool.true_and,Bool.true_and] at this
       rw [rs0.length,rs1.length]
       have ee:decide ((e0.length:Int)=(e1.length:Int))=decide ((Qq (.tuple e0)).length=(Qq (.tuple e1)).length):=by
        show _=decide (e0.length=e1.length)
        simp only [Int.ofNat_inj]
       rw [ee]; exact this
theorem Ztz {K:Fq} {a:V} {H:Hp} {Q:VK} {E:XK} (h:Zj5 K a H Q E):Zfb K (Rt Q) [some a,none] H:=by
 obtain ⟨d,r,q⟩:=h
 unfold Zfb
 refine Zu (Yv (Zo8 (w_not (Wu (Z5 (Zb (Zd rfl (Zb (w_c (Zb (w_c (Zh ⟨_,_,_,rfl,d,1,8,r,rfl,rfl,Jh ?_⟩))))))))))))
 cases z:Jq 1 8 d with
 | false =>
   refine iteT (iteT (Z4 (w_c ?_)))
   have:=q H (Same.refl _)
   unfold Xo at this
   rw [z,Bool.false_and,Bool.false_and] at this; exact this
 | true =>
   obtain ⟨ds,rfl,h1,h2⟩:=G6 z
   unfold Rep at r
   obtain ⟨p,xs,rfl,hp,rs⟩:=r
   have hl:=rs.length
   have qa:∀ H',Same H H'->Q (.bl (ds.all Qs && ds.all λ e=>decide (Ja e=Ja (ds.getD 0 .none)))) H':=λ H' s=>by
    have:=q H' s
    unfold Xo at this
    rw [z,Bool.true_and] at this; exact this
   refine iteF (w_not (Wu (Ye (Zb (Zcc Qs rfl hp rs (by omega) ⟨_,rfl⟩ (λ i x d H1 R hi hd s1 rd k=>?_) λ D H1 hD s1 hD1=>Zh (Zbb (.inl (SqL.of hD1)) (Jh ?_)))))))
   · exact Z5 (Zb (Zd rfl (Zh ⟨_,rfl,d,rd,k⟩)))
   · rw [Zlr]
     cases y:ds.all Qs with
     | false =>
       refine iteT (Z4 (w_c ?_))
       have:=qa H1 s1
       rw [y,Bool.false_and] at this; exact this
     | true =>
       have dayf:∀ (i:Nat) x d H2,xs[i]?=some x->ds[i]?=some d->Same H1 H2->∃ (pd p0:Addr) (x1:V) (zs:List V),x=.ref pd/\H2 pd=some (.tup [.ref p0,x1])/\H2 p0=some (.tup zs)/\zs.length=Ja d:=by
        intro i x d H2 hi hd s2
        have hday:=List.all_eq_true.mp y d (List.mem_of_getElem? hd)
        obtain ⟨d',e1,rd⟩:=rs.get hi
        rw [hd] at e1
        cases e1
        unfold Qs at hday
        rw [Bool.and_eq_true,Bool.and_eq_true,Bool.and_eq_true] at hday
        obtain ⟨es,rfl,l1,l2⟩:=G6 hday.1.1.1
        match es,l1,l2,hday with
        | [d0,d1],_,_,hday =>
        have t0:Jq 1 6 d0=true:=by
         have y0:Qe d0=true:=hday.1.1.2
         unfold Qe at y0; rw [Bool.and_eq_true] at y0; exact y0.1
        obtain ⟨e0,rfl,_,_⟩:=G6 t0
        have rd2:=Rep.mono (s1.trans s2) _ _ rd
        unfold Rep at rd2
        obtain ⟨pd,ys,rfl,hpd,rs2⟩:=rd2
        unfold Reps at rs2
        obtain ⟨y0,r1,rfl,rd0,rs2⟩:=rs2
        unfold Reps at rs2
        obtain ⟨y1,r2,rfl,rd1,rs2⟩:=rs2
        unfold Reps at rs2
        subst rs2
        unfold Rep at rd0
        obtain ⟨p0,zs,rfl,hp0,rz⟩:=rd0
        exact ⟨pd,p0,y1,zs,rfl,hpd,hp0,rz.length⟩
       obtain ⟨d0,hd0⟩:∃ d0,ds[0]?=some d0:=⟨ds[0],by simp [show 0<ds.length by omega]⟩
       obtain ⟨v0,hv0⟩:∃ v0,xs[0]?=some v0:=⟨xs[0]'(by omega),by simp [show 0<xs.length by omega]⟩
       obtain ⟨pd,p0,x1,zs,rfl,hpd,hp0,hzs⟩:=dayf 0 v0 d0 H1 hv0 hd0 (Same.refl _)
       have hgd:ds.getD 0 .none=d0:=by rw [List.getD,hd0]; rfl
       refine iteF (Ys (Zu (Z0 (Ye (Zb (Zk (Zk (Zd rfl (w_c (Xx (SqT.of (s1 _ _ hp)) (Vh (j:=0) hv0) (w_c (Xx (SqT.of hpd) (v:=.ref p0) rfl (Zh (Vj (SqT.of hp0) (Zw ?_)))))))))))))))
       refine Z4 (Ye (Zb (Zcc (λ e=>decide (Ja e=Ja d0)) rfl (s1 _ _ hp) (Reps.mono s1 _ _ rs) (by omega) ⟨_,rfl⟩ (λ i x d H2 R hi hd s2 rd k=>?_) λ D2 H2 hD2 s2 hD3=>Zh (Zbb (.inl (SqL.of hD3)) ?_))))
       · obtain ⟨pd',p0',x1',zs',rfl,hpd',hp0',hzs'⟩:=dayf i x d H2 hi hd s2
         refine Zk (Ye (Zb (Zk (Zd rfl (w_c (Xx (SqT.of hpd') (v:=.ref p0') rfl (Zh (Vj (SqT.of hp0') (Zd rfl (Qm ?_))))))))))
         rw [hzs,hzs']
         have:=k H2 (Same.refl _)
         simp only [Int.ofNat_inj]
         exact this
       · rw [Zlr]
         have:=qa H2 (s1.trans s2)
         rw [y,Bool.true_and,hgd] at this; exact this
end LB
namespace LB
open PySem L2
def Zg8 (K:Fq) (a:V) (H:Hp) (Q:VK) (E:XK):Prop:=∃ c:Int,a=.int c/\∀ c',0<=c'->c'<10000000000000000000000000000000000000000->Q (.int c') H
def Um (K:Fq):Sp:=sp1 (Zg8 K)
def Zgd (K:Fq) (a b:V) (H:Hp) (Q:VK) (E:XK):Prop:=∃ (c:Int) (n:Nat),a=.int c/\b=.int n/\1<=n/\n<=8 /\
 ∀ p (ns:List Int) H',H p=none->Same H H'->H' p=some (.lst (ns.map V.int))->ns.length=n->(∀ x∈ns,0<=x/\x<4)->0<ns.sum->Q (.ref p) H'
def Ew (K:Fq):Sp:=sp2 (Zgd K)
def Zhc (K:Fq) (a b c:V) (H:Hp) (Q:VK) (E:XK):Prop:=∃ (p1 p2:Addr) (ps ss:List Int) (j:Nat),a=.ref p1/\b=.ref p2/\c=.int j/\H p1=some (.lst (ps.map V.int))/\H p2=some (.lst (ss.map V.int))/\ss.length=ps.length/\ps.length<=8/\j<ps.length /\
 (∀ x∈ps,0<=x/\x<=1000000000)/\(∀ x∈ss,0<=x/\x<4)/\∀ r:Int,(r=0\/r=1)->Q (.int r) H
def Zbv (K:Fq):Sp:=sp3 (Zhc K)
def Zei (K:Fq) (a b c d e:V) (H:Hp) (Q:VK) (E:XK):Prop:=∃ (w t:Int) (p1 p2 p3:Addr) (ps as ss:List Int),a=.int w/\b=.ref p1/\c=.ref p2/\d=.ref p3/\e=.int t /\
 H p1=some (.lst (ps.map V.int))/\H p2=some (.lst (as.map V.int))/\H p3=some (.lst (ss.map V.int))/\as.length=ps.length/\ss.length=ps.length/\ps.length<=8/\1<=ps.length /\
 (∀ x∈ps,1<=x/\x<=1000000000)/\(∀ x∈as,0<=x/\x<=1000000000)/\(∀ x∈ss,0<=x/\x<4)/\1<=t/\t<=5/\(w=7->∀ x∈ps,x<=8) /\
 ∀ p (rs:List Int) H',(p=p2\/H p=none)->Same H H'->H' p=some (.lst (rs.map V.int))->rs.length=ps.length->(∀ x∈rs,0<=x/\x<=1000000001)->Q (.ref p) H'
def Kc (K:Fq):Sp:=sp5 (Zei K)
def Zge (K:Fq) (a b:V) (H:Hp) (Q:VK) (E:XK):Prop:=∃ (w h:Int),a=.int w/\b=.int h/\∀ (r:Int) H',Same H H'->1<=r->r<=1000000000->(w=7->r<=8)->Q (.int r) H'
def Ex (K:Fq):Sp:=sp2 (Zge K)
def dayD (d:List Int×List Int):PyData:=.tuple [.tuple (d.1.map .int),.tuple (d.2.map .int)]
def Qd (B:List (List Int×List Int)):PyData:=.tuple (B.map dayD)
structure GoodDay (n:Nat) (d:List Int×List Int):Prop where
 l1:d.1.length=n
 l2:d.2.length=n
 pr:∀ x∈d.1,1<=x/\x<=1000000000
 am:∀ x∈d.2,0<=x/\x<=1000000000000000000
 ps:∃ x∈d.2,0<x
structure GoodBook (m n:Nat) (B:List (List Int×List Int)):Prop where
 n1:1<=n
 n6:n<=6
 m1:1<=B.length
 m8:B.length<=m
 dy:∀ d∈B,GoodDay n d
def Zim (K:Fq) (a b c:V) (H:Hp) (Q:VK) (E:XK):Prop:=∃ (cc w:Int) (p:Addr) (ss:List Int),a=.int cc/\b=.int w/\c=.ref p/\0<=cc/\cc<10000000000000000000000000000000000000000/\H p=some (.lst (ss.map V.int))/\1<=ss.length/\ss.length<=8/\(∀ x∈ss,0<=x/\x<4) /\
 ∀ v d H',Same H H'->Rep H' v (dayD d)->GoodDay ss.length d->(∀ x∈d.2,x<=1000000001)->Q v H'
def Zdo (K:Fq):Sp:=sp3 (Zim K)
def Zhb (K:Fq) (a b c d:V) (H:Hp) (Q:VK) (E:XK):Prop:=∃ (l:Addr) (ns:List Int) (s m n:Nat),a=.ref l/\b=.int s/\c=.int m/\d=.int n/\SqL K H l (ns.map V.int)/\(∀ n∈ns,Builtin.Int.intBits n<=1048576)/\s<=900/\1<=m/\m<=8/\1<=n/\n<=6 /\
 ∀ v B k H',Same H H'->Rep H' v (Qd B)->GoodBook m k B->k<=n->(∀ d∈B,∀ x∈d.2,x<=1000000002)->Q v H'
def Zbu (K:Fq):Sp:=sp4 (Zhb K)
def Zbk (K:Fq):TS :=
 (Zz (tOp rModU (tOp (rAddU K) (tOp (rMulU K) (Zc 0) (tC (.int 6364136223846793007))) (tC (.int 1442695040888963407))) (tC (.int 10000000000000000000000000000000000000000))))
def Eo (K:Fq):TS :=
 (Zv (Z6 (Xi Zg) (Zt 2))
  (Zv (Zbq (Wk (Za (Zc 1) Zg)) (Zt 3) (Zv (Z6 (Z7 (Um K) [] E0 (Za (Zc 0) Zg)) (Zt 0))
  (J2 (tBM K "list" Zem (Zc 2) (Za (tOp rModU (tOp rDivU (Zc 0) (tC (.int 1000000000000000))) (tC (.int 4))) Zg)))))
  (Zv (Y0 (Y4 (tOp (rEqU K) (tCB (rSumU K) (Za (Zc 2) Zg)) (tC (.int 0)))) (Z6 (tC (.int 1)) (Zje (Zc 2) (tC (.int 0)) Zfp)) Yl)
  (Zz (Zc 2)))))
def Zbo (K:Fq):TS :=
 (Zv (Zbq (Wk (Za (tCB (rLenU K) (Za (Zc 0) Zg)) Zg)) (Zt 3) (Y0 (Y4 (tOp rGtU (tOp (rMulU K) (tOp (rAddU K) (tC (.int 1)) (tOp (rIx K) (Zc 1) (Zc 3))) (tOp (rIx K) (Zc 0) (Zc 2))) (tOp (rMulU K) (tOp (rAddU K) (tC (.int 1)) (tOp (rIx K) (Zc 1) (Zc 2))) (tOp (rIx K) (Zc 0) (Zc 3))))) (Zz (tC (.int 0))) Yl))
  (Zz (tC (.int 1))))
def Hn (K:Fq):TS :=
 (Zv (Y0 (Y4 (tOp (rEqU K) (Zc 0) (tC (.int 3)))) (Zz (Xq [none,some 4,some 3] (Wk (Za (tCB (rLenU K) (Za (Zc 1) Zg)) Zg)) (Zt 0) Qa (tOp (rMulU K) (Zc 1) (tOp (rIx K) (Zc 2) (Zc 0))))) Yl)
  (Zv (Y0 (Y4 (tOp (rEqU K) (Zc 0) (tC (.int 4)))) (Zz (Xq [none,some 4,some 3,some 1] (Wk (Za (tCB (rLenU K) (Za (Zc 1) Zg)) Zg)) (Zt 0) Qa (tOp rDivU (tOp (rMulU K) (tOp (rMulU K) (Zc 1) (tOp (rIx K) (Zc 2) (Zc 0))) (tC (.int 12))) (tOp (rIx K) (Zc 3) (Zc 0))))) Yl)
  (Zv (Y0 (Y4 (tOp (rEqU K) (Zc 0) (tC (.int 5)))) (Zz (Xq [none,some 2,some 1,some 3] (Wk (Za (tCB (rLenU K) (Za (Zc 1) Zg)) Zg)) (Zt 0) Qa (tOp (rMulU K) (tOp (rAddU K) (tC (.int 1)) (tOp (rIx K) (Zc 1) (Zc 0))) (Z7 (Zbv K) [] E0 (Za (Zc 2) (Za (Zc 3) (Za (Zc 0) Zg))))))) Yl)
  (Zv (Y0 (Y4 (tOp (rEqU K) (Zc 0) (tC (.int 6)))) (Zz (Xq [none,some 2,some 1] (Wk (Za (tCB (rLenU K) (Za (Zc 1) Zg)) Zg)) (Zt 0) Qa (tOp (rMulU K) (tOp (rAddU K) (tC (.int 1)) (tOp (rIx K) (Zc 1) (Zc 0))) (tCB (rTy_int K) (Za (tOp (rEqU K) (tOp (rIx K) (Zc 2) (Zc 0)) (tCB (rMinU K) (Za (Zc 2) Zg))) Zg))))) Yl)
  (Zv (Y0 (Y4 (tOp (rEqU K) (Zc 0) (tC (.int 7)))) (Zz (Xq [none] (iSeq K (Zc 1)) (Zt 0) Qa (tOp rSubU (tC (.int 9)) (Zc 0)))) Yl)
  (Zz (Zc 2)))))))
def Ep (K:Fq):TS :=
 (Zv (Y0 (Y4 (tOp (rEqU K) (Zc 0) (tC (.int 0)))) (Zz (tOp (rAddU K) (tC (.int 1)) (tOp rModU (Zc 1) (tC (.int 3))))) Yl)
  (Zv (Y0 (Y4 (tOp (rEqU K) (Zc 0) (tC (.int 1)))) (Zz (tOp (rAddU K) (tC (.int 1)) (tOp rModU (Zc 1) (tC (.int 5))))) Yl)
  (Zv (Y0 (Y4 (tOp (rEqU K) (Zc 0) (tC (.int 2)))) (Zz (tOp (rAddU K) (tC (.int 1)) (tOp rModU (Zc 1) (tC (.int 1000000000))))) Yl)
  (Zv (Y0 (Y4 (tOp (rEqU K) (Zc 0) (tC (.int 4)))) (Zz (tOp (rIx K) (Xi (Za (tC (.int 1)) (Za (tC (.int 2)) (Za (tC (.int 3)) (Za (tC (.int 4)) (Za (tC (.int 6)) (Za (tC (.int 12)) Zg))))))) (tOp rModU (Zc 1) (tC (.int 6))))) Yl)
  (Zz (tOp (rAddU K) (tC (.int 1)) (tOp rModU (Zc 1) (tC (.int 8)))))))))
def Zdj (K:Fq):TS :=
 (Zv (Z6 (Xi Zg) (Zt 3))
  (Zv (Z6 (Xi Zg) (Zt 4))
  (Zv (Zbq (Wk (Za (tCB (rLenU K) (Za (Zc 2) Zg)) Zg)) (Zt 5) (Zv (Z6 (Z7 (Um K) [] E0 (Za (Zc 0) Zg)) (Zt 0))
  (Zv (Z6 (tOp rDivU (Zc 0) (tC (.int 1000000000000000))) (Zt 6))
  (Zv (J2 (tBM K "list" Zem (Zc 3) (Za (Z7 (Ex K) [] E0 (Za (Zc 1) (Za (Zc 6) Zg))) Zg)))
  (J2 (tBM K "list" Zem (Zc 4) (Za (tOp (rIx K) (Xi (Za (tOp rModU (tOp rDivU (Zc 6) (tC (.int 420))) (tC (.int 4))) (Za (tOp rModU (tOp rDivU (Zc 6) (tC (.int 1000000000))) (tC (.int 1000000000))) Zg))) (tCB (rTy_int K) (Za (tOp (rEqU K) (Zc 1) (tC (.int 2))) Zg))) Zg)))))))
  (Zv (Y0 (Y4 (tOp (rEqU K) (Zc 1) (tC (.int 8)))) (Zv (Z6 (tOp rModU (tOp rDivU (Zc 0) (tC (.int 10000000000000000000000000))) (tCB (rLenU K) (Za (Zc 3) Zg))) (Zt 7))
  (Zv (Z6 (Xq [none,some 0,some 7,some 2] (Wk (Za (tCB (rLenU K) (Za (Zc 2) Zg)) Zg)) (Zt 0) Qa (tOp (rIx K) (Xi (Za (tC (.int 9)) (Za (tOp (rAddU K) (tC (.int 2)) (tOp rModU (Zc 1) (tC (.int 2)))) Zg))) (tCB (rTy_int K) (Za (tOp (rEqU K) (Zc 0) (tOp rModU (tOp (rAddU K) (Zc 2) (tC (.int 1))) (tCB (rLenU K) (Za (Zc 3) Zg)))) Zg)))) (Zt 3))
  (Zv (Z6 (tC (.int 3)) (Zje (Zc 3) (Zc 7) Zfp))
  (Z6 (Xq [none,some 7] (Wk (Za (tCB (rLenU K) (Za (Zc 2) Zg)) Zg)) (Zt 0) Qa (tCB (rTy_int K) (Za (tOp (rEqU K) (Zc 0) (Zc 1)) Zg))) (Zt 4))))) Yl)
  (Zv (Z6 (Z7 (Kc K) [] E0 (Za (Zc 1) (Za (Zc 3) (Za (Zc 4) (Za (Zc 2) (Za (tOp (rAddU K) (tC (.int 1)) (tOp rModU (tOp rDivU (Zc 0) (tC (.int 1000000000000000000000000000000))) (tC (.int 5)))) Zg)))))) (Zt 4))
  (Zv (Y0 (Y4 (tOp (rEqU K) (tCB (rSumU K) (Za (Zc 4) Zg)) (tC (.int 0)))) (Z6 (tC (.int 1)) (Zje (Zc 4) (tC (.int 0)) Zfp)) Yl)
  (Zz (Vt (Za (tCB (rTy_tuple K) (Za (Zc 3) Zg)) (Za (tCB (rTy_tuple K) (Za (Zc 4) Zg)) Zg))))))))))
def Zbn (K:Fq):TS :=
 (Zv (Z6 (Z7 (Wn K) [] E0 (Za (Zc 0) (Za (Zc 1) Zg))) (Zt 4))
  (Zv (Z6 (tOp (rIx K) (Xi (Za (tC (.int 0)) (Za (tC (.int 1)) (Za (tC (.int 0)) (Za (tC (.int 2)) (Za (tC (.int 8)) (Za (tC (.int 3)) (Za (tC (.int 4)) (Za (tC (.int 5)) (Za (tC (.int 6)) (Za (tC (.int 7)) Zg))))))))))) (tOp rModU (tOp rDivU (Zc 4) (tC (.int 8))) (tC (.int 10)))) (Zt 5))
  (Zv (Z6 (Z7 (Ew K) [] E0 (Za (Zc 4) (Za (tOp (rAddU K) (tC (.int 1)) (tOp rModU (Zc 4) (Zc 3))) Zg))) (Zt 6))
  (Zv (Z6 (Xq [none,some 0,some 1,some 5,some 6] (Wk (Za (tOp (rAddU K) (tC (.int 1)) (tOp rModU (tOp rDivU (Zc 4) (tC (.int 80))) (Zc 2))) Zg)) (Zt 0) Qa (Z7 (Zdo K) [] E0 (Za (Z7 (Wn K) [] E0 (Za (Zc 1) (Za (tOp (rAddU K) (tOp (rAddU K) (Zc 2) (tC (.int 1))) (Zc 0)) Zg))) (Za (Zc 3) (Za (Zc 4) Zg))))) (Zt 7))
  (Zv (Y0 (Y4 (tOp (rEqU K) (tOp rModU (tOp rDivU (Zc 4) (tC (.int 1000))) (tC (.int 4))) (tC (.int 0)))) (Zv (Z6 (tOp rModU (tOp rDivU (Zc 4) (tC (.int 4000))) (tCB (rLenU K) (Za (Zc 7) Zg))) (Zt 8))
  (Zv (Z6 (tOp rModU (tOp rDivU (Zc 4) (tC (.int 40000))) (tCB (rLenU K) (Za (Zc 6) Zg))) (Zt 9))
  (Zv (Z6 (tOp (rAddU K) (tOp (rAddU K) (tSl (rSlU K) (tOp (rIx K) (tOp (rIx K) (Zc 7) (Zc 8)) (tC (.int 1))) Zh1 (Zot (Zc 9))) (Vt (Za (tOp (rAddU K) (tOp (rIx K) (tOp (rIx K) (tOp (rIx K) (Zc 7) (Zc 8)) (tC (.int 1))) (Zc 9)) (tC (.int 1))) Zg))) (tSl (rSlU K) (tOp (rIx K) (tOp (rIx K) (Zc 7) (Zc 8)) (tC (.int 1))) (Zot (tOp (rAddU K) (Zc 9) (tC (.int 1)))) Zh1)) (Zt 10))
  (Z6 (Vt (Za (tOp (rIx K) (tOp (rIx K) (Zc 7) (Zc 8)) (tC (.int 0))) (Za (Zc 10) Zg))) (Zje (Zc 7) (Zc 8) Zfp))))) Yl)
  (Zz (tCB (rTy_tuple K) (Za (Zc 7) Zg))))))))
theorem Zp5 {K:Fq} {a:V} {H:Hp} {Q:VK} {E:XK} (h:Zg8 K a H Q E):Zbk K (Rt Q) [some a] H:=by
 obtain ⟨c,rfl,q⟩:=h
 unfold Zbk
 exact Z4 (Zk (Zk (Zk (Zd rfl (w_c (Jc (Zh5 (by decide) (by decide)) (w_c (X8 (w_c (Y5 (by decide) (q _ (Int.emod_nonneg _ (by decide)) (Int.emod_lt_of_pos _ (by decide)))))))))))))
theorem Zn6 {K:Fq} {a b:V} {H:Hp} {Q:VK} {E:XK} (h:Zgd K a b H Q E):Eo K (Rt Q) [some a,some b,none,none] H:=by
 obtain ⟨c,n,rfl,rfl,n1,n8,q⟩:=h
 unfold Eo
 refine Zu (Z0 (Jz (Zh ⟨Nat.zero_le _,λ p hp=>Zw ?_⟩)))
 refine Zu (Ze5 (Zba (Zb (Zd rfl (Zh (⟨_,rfl,(Wc (by omega)).1,(Wc (by omega)).2,(Za3 (λ i σ H2=>∃ (c:Int) (ns:List Int) (r:Option V),σ=[some (.int c),some (.int n),some (.ref p),r]/\Same H H2/\H2 p=some (.lst (ns.map V.int))/\ns.length=i/\∀ x∈ns,0<=x/\x<4)
  ⟨c,[],none,rfl,Same.laid hp,Zr,rfl,λ x hx=>by simp at hx⟩ ?_ ?_)⟩))))))
 · rintro i σ H2 hi ⟨c,ns,r,rfl,s,hp2,hl,hx⟩
   refine Zw (Zu (Z0 (Z5 (Zb (Zd rfl (Zh ⟨_,rfl,c,rfl,λ c' d0 d1=>Zw ?_⟩))))))
   refine Jj (K1 (Zd rfl ⟨Zhy hp2,Zb (Zk (Zk (Zd rfl (w_c (Qn (by decide) (by decide) (w_c (Y5 (by decide) (Zh (Ziu hp2 (Wt (by rw [List.length_map]; omega)) ?_)))))))))⟩))
   refine ⟨c',ns++[c' / 1000000000000000 % 4],_,rfl,s.put hp,by rw [Zr,List.map_append]; rfl,by simp [hl],λ x hx'=>?_⟩
   rcases List.mem_append.mp hx' with e | e
   · exact hx x e
   · rw [List.mem_singleton.mp e]
     exact ⟨Int.emod_nonneg _ (by decide),Int.emod_lt_of_pos _ (by decide)⟩
 · rintro σ H2 ⟨c,ns,r,rfl,s,hp2,hl,hx⟩
   refine Zu (Yv (Xe (Zk (Ye (Zb (Zd rfl (Zh (Zjm (.inl (SqL.of hp2)) (w_c (Qm (Xc (iteD (λ hz=>?_) λ hz=>?_))))))))))))
   · refine Z0 (w_c (Zor (Zd rfl (w_c (Zjn hp2 (Zkv (by decide) (by rw [List.length_map]; omega)) ?_)))))
     refine Z4 (Zd rfl (q p (ns.set 0 1) _ hp (s.put hp) (by rw [Zr,Zd8]; rfl) (by rw [List.length_set]; exact hl) (λ x hx'=>?_) ?_))
     · rcases List.mem_or_eq_of_mem_set hx' with e | e
       · exact hx x e
       · subst e; decide
     · refine Zjv (x:=1) (λ y hy=>?_) ?_ (by decide)
       · rcases List.mem_or_eq_of_mem_set hy with e | e
         · exact (hx y e).1
         · subst e; decide
       · exact List.mem_set (by omega) 1
   · refine Ys (Z4 (Zd rfl (q p ns H2 hp s hp2 hl hx ?_)))
     have:=Zpj (ns:=ns) λ x h=>(hx x h).1
     omega
theorem Zp9 {K:Fq} {a b c:V} {H:Hp} {Q:VK} {E:XK} (h:Zhc K a b c H Q E):Zbo K (Rt Q) [some a,some b,some c,none] H:=by
 obtain ⟨p1,p2,ps,ss,j,rfl,rfl,rfl,h1,h2,hl,hn,hj,hps,hss,q⟩:=h
 unfold Zbo
 refine Zu (Ze5 (Zba (Zb (Ye (Zb (Zd rfl (Zh (Ji (SqL.of h1) (Zh (⟨_,rfl,(Wc (by rw [List.length_map]; omega)).1,(Wc (by rw [List.length_map]; omega)).2,(Za3 (λ i σ H2=>H2=H/\∃ r,σ=[some (.ref p1),some (.ref p2),some (.int j),r]) ⟨rfl,none,rfl⟩ ?_ ?_)⟩))))))))))
 · rintro i σ H2 hi ⟨rfl,r,rfl⟩
   rw [List.length_map] at hi
   have b1:=hps _ (Qx hj)
   have b2:=hps _ (Qx hi)
   have c1:=hss _ (Qx (show j<ss.length by omega))
   have c2:=hss _ (Qx (show i<ss.length by omega))
   refine Zw (Yv (Xe (Zk (Zk (Zk (w_c (Zk (Zd rfl (Zd rfl (Yo (SqL.of h2) (ixi (by omega)) (X8 (Zk (Zd rfl (Zd rfl (Yo (SqL.of h1) (ixi hj) (Jc (W7 (by omega) (by omega)) ?_))))))))))))))))
   refine Zk (Zk (w_c (Zk (Zd rfl (Zd rfl (Yo (SqL.of h2) (ixi (by omega)) (X8 (Zk (Zd rfl (Zd rfl (Yo (SqL.of h1) (ixi hi) (Jc (W7 (by omega) (by omega)) (Zth (Xc (iteB (λ _=>Z4 (w_c (q 0 (.inl rfl)))) λ _=>Ys ⟨rfl,_,rfl⟩)))))))))))))))
 · rintro σ H2 ⟨rfl,r,rfl⟩
   exact q 1 (.inr rfl)
theorem Gj {K:Fq} {H:Hp} {σ σr:St} {l:List (Option Nat)} {te:TE} {p1:Addr} {ps:List Int} {m:Nat} {Q:VK} (hσ:σ[m]?=some (some (.ref p1))) (h1:H p1=some (.lst (ps.map V.int))) (hn:ps.length<=8) (hini:∃ r0,X5 l σ=r0::σr) (Good:Nat->Int->Prop)
 (hs:∀ i H1 (R:VK),i<ps.length->Same H H1->(∀ x H2,Same H1 H2->Good i x->R (.int x) H2)->te (some (.int (i:Nat))::σr) H1 R)
 (q:∀ p (rs:List Int) H',H p=none->Same H H'->H' p=some (.lst (rs.map V.int))->rs.length=ps.length->(∀ (i:Nat) x,rs[i]?=some x->Good i x)->Q (.ref p) H') :
 Xq l (Wk (Za (tCB (rLenU K) (Za (Zc m) Zg)) Zg)) (Zt 0) Qa te σ H Q:=by
 refine Jk (Zba (Zb (Ye (Zb (Zd hσ (Zh (Ji (SqL.of h1) (Zh (⟨_,rfl,(Wc (by rw [List.length_map]; omega)).1,(Wc (by rw [List.length_map]; omega)).2,λ D hD=>?_⟩)))))))))
 rw [List.length_map]
 refine Zir D (λ i v _=>∃ x,v=.int x/\Good i x) (λ _ _ _ _ _ z=>z) (by omega) hD hini (λ i H1 R hi s1 k=>hs i H1 R hi s1 λ x H2 s2 g=>k _ H2 s2 ⟨x,rfl,g⟩) (λ ys H1 hy hall s1 hD1=>?_)
 obtain ⟨rs,rfl,hr⟩:=Zrt hall
 exact q D rs H1 hD s1 hD1 (by simpa using hy) hr
theorem Zf5 {rs:List Int} {P:Int->Prop} (h:∀ (i:Nat) x,rs[i]?=some x->P x):∀ x∈rs,P x:=λ x hx=>by
 obtain ⟨i,hi,e⟩:=List.mem_iff_getElem.mp hx
 exact h i x (by rw [List.getElem?_eq_getElem hi,e])
theorem Zme {K:Fq} {a b c d e:V} {H:Hp} {Q:VK} {E:XK} (h:Zei K a b c d e H Q E):Hn K (Rt Q) [some a,some b,some c,some d,some e] H:=by
 obtain ⟨w,t,p1,p2,p3,ps,as,ss,rfl,rfl,rfl,rfl,rfl,h1,h2,h3,l2,l3,n8,n1,hps,has,hss,t1,t5,h7,q⟩:=h
 unfold Hn
 have fin:∀ p (rs:List Int) H',H p=none->Same H H'->H' p=some (.lst (rs.map V.int))->rs.length=ps.length->(∀ (i:Nat) x,rs[i]?=some x->0<=x/\x<=1000000001)->Q (.ref p) H':=λ p rs H' hp s hp' hl hr=>q p rs H' (.inr hp) s hp' hl (Zf5 hr)
 refine Zu (Yv (Xe (Zk (Zd rfl (w_c (Qm (Xc (iteD (λ _=>?_) λ _=>Ys ?_))))))))
 · refine Z4 (Gj rfl h1 n8 ⟨_,rfl⟩ (λ _ x=>0<=x/\x<=1000000001) (λ i H1 R hi s1 k=>?_) fin)
   have b:=hss _ (Qx (show i<ss.length by omega))
   refine Zk (Zd rfl (Zk (Zd rfl (Zd rfl (Yo (SqL.of (s1 _ _ h3)) (ixi (by omega)) (Jc (W7 (by omega) (by omega)) (k _ _ (Same.refl _) ?_)))))))
   have e1:t*ss.getD i 0<=5*3:=Int.mul_le_mul t5 (by omega) b.1 (by decide)
   exact ⟨Int.mul_nonneg (by omega) b.1,by omega⟩
 refine Zu (Yv (Xe (Zk (Zd rfl (w_c (Qm (Xc (iteD (λ _=>?_) λ _=>Ys ?_))))))))
 · refine Z4 (Gj rfl h1 n8 ⟨_,rfl⟩ (λ _ x=>0<=x/\x<=1000000001) (λ i H1 R hi s1 k=>?_) fin)
   have b:=hss _ (Qx (show i<ss.length by omega))
   have c:=hps _ (Qx hi)
   have e1:t*ss.getD i 0<=5*3:=Int.mul_le_mul t5 (by omega) b.1 (by decide)
   have e0:0<=t*ss.getD i 0:=Int.mul_nonneg (by omega) b.1
   refine Zk (Zk (Zk (Zd rfl (Zk (Zd rfl (Zd rfl (Yo (SqL.of (s1 _ _ h3)) (ixi (by omega)) (Jc (W7 (by omega) (by omega)) (w_c (Jc (W7 (by omega) (by omega)) ?_))))))))))
   refine Zk (Zd rfl (Zd rfl (Yo (SqL.of (s1 _ _ h1)) (ixi hi) (Qn (by omega) (by omega) (k _ _ (Same.refl _) ?_)))))
   refine ⟨Int.ediv_nonneg (by omega) (by omega),Int.le_trans (Int.ediv_le_self _ (by omega)) (by omega)⟩
 refine Zu (Yv (Xe (Zk (Zd rfl (w_c (Qm (Xc (iteD (λ _=>?_) λ _=>Ys ?_))))))))
 · refine Z4 (Gj rfl h1 n8 ⟨_,rfl⟩ (λ _ x=>0<=x/\x<=1000000001) (λ i H1 R hi s1 k=>?_) fin)
   have b:=has _ (Qx (show i<as.length by omega))
   refine Zk (Zk (w_c (Zk (Zd rfl (Zd rfl (Yo (SqL.of (s1 _ _ h2)) (ixi (by omega)) (X8 ?_)))))))
   refine Z5 (Zb (Zd rfl (Zb (Zd rfl (Zb (Zd rfl (Zh ?_)))))))
   refine ⟨_,_,_,rfl,p1,p3,ps,ss,i,rfl,rfl,rfl,s1 _ _ h1,s1 _ _ h3,l3,n8,hi,λ x hx=>⟨by have:=(hps x hx).1; omega,(hps x hx).2⟩,hss,λ r hr=>Jc (W7 (by omega) (by omega)) (k _ _ (Same.refl _) ?_)⟩
   rcases hr with rfl | rfl <;> omega
 refine Zu (Yv (Xe (Zk (Zd rfl (w_c (Qm (Xc (iteD (λ _=>?_) λ _=>Ys ?_))))))))
 · refine Z4 (Gj rfl h1 n8 ⟨_,rfl⟩ (λ _ x=>0<=x/\x<=1000000001) (λ i H1 R hi s1 k=>?_) fin)
   have b:=has _ (Qx (show i<as.length by omega))
   refine Zk (Zk (w_c (Zk (Zd rfl (Zd rfl (Yo (SqL.of (s1 _ _ h2)) (ixi (by omega)) (X8 ?_)))))))
   refine Ye (Zb (Zk (Zk (Zd rfl (Zd rfl (Yo (SqL.of (s1 _ _ h1)) (ixi hi) (Ye (Zb (Zd rfl (Zh ?_))))))))))
   refine ⟨p1,ps,rfl,.inl (SqL.of (s1 _ _ h1)),λ z=>by subst z; simp at n1,λ mm _ _=>Qm (Zh (Zjp (Jc (W7 (by omega) (by omega)) (k _ _ (Same.refl _) ?_))))⟩
   split <;> omega
 refine Zu (Yv (Xe (Zk (Zd rfl (w_c (Qm (Xc (iteD (λ hw=>?_) λ _=>Ys ?_))))))))
 · refine Z4 (Jk (Vi (Zd rfl (⟨_,rfl,.inl ⟨⟨_,SqL.of h1⟩,λ D hD=>?_⟩⟩))))
   refine Uz (K:=K) (a:=p1) (.inr ⟨rfl,h1⟩) D (λ i v _=>∃ x,v=.int x/\0<=x/\x<=1000000001) (λ _ _ _ _ _ z=>z) (by rw [List.length_map]; omega) hD ⟨_,rfl⟩ (λ i x H1 R hi s1 k=>?_) (λ ys H1 hy hall s1 hD1=>?_)
   · have hi':i<ps.length:=by have:=(List.getElem?_eq_some_iff.mp hi).1; simpa using this
     rw [Ux hi'] at hi
     cases hi
     have b:=hps _ (Qx hi')
     have b8:=h7 hw _ (Qx hi')
     exact Zk (w_c (Zd rfl (Zo7 (k _ _ (Same.refl _) ⟨_,rfl,by omega,by omega⟩))))
   · obtain ⟨rs,rfl,hr⟩:=Zrt hall
     exact fin D rs H1 hD s1 hD1 (by simpa using hy) hr
 exact Z4 (Zd rfl (q p2 as H (.inl rfl) (Same.refl _) h2 l2 λ x hx=>⟨(has x hx).1,by have:=(has x hx).2; omega⟩))
theorem Zn7 {K:Fq} {a b:V} {H:Hp} {Q:VK} {E:XK} (h:Zge K a b H Q E):Ep K (Rt Q) [some a,some b] H:=by
 obtain ⟨w,h,rfl,rfl,q⟩:=h
 unfold Ep
 refine Zu (Yv (Xe (Zk (Zd rfl (w_c (Qm (Xc (iteD (λ hw=>?_) λ _=>Ys ?_))))))))
 · refine Z4 (Zk (w_c (Zk (Zd rfl (w_c (Y5 (by decide) (X8 (q _ _ (Same.refl _) (by omega) (by omega) (by omega)))))))))
 refine Zu (Yv (Xe (Zk (Zd rfl (w_c (Qm (Xc (iteD (λ hw=>?_) λ _=>Ys ?_))))))))
 · refine Z4 (Zk (w_c (Zk (Zd rfl (w_c (Y5 (by decide) (X8 (q _ _ (Same.refl _) (by omega) (by omega) (by omega)))))))))
 refine Zu (Yv (Xe (Zk (Zd rfl (w_c (Qm (Xc (iteD (λ hw=>?_) λ _=>Ys ?_))))))))
 · refine Z4 (Zk (w_c (Zk (Zd rfl (w_c (Y5 (by decide) (X8 (q _ _ (Same.refl _) (by omega) (by omega) (by omega)))))))))
 refine Zu (Yv (Xe (Zk (Zd rfl (w_c (Qm (Xc (iteD (λ hw=>?_) λ _=>Ys ?_))))))))
 · refine Z4 (Zk (Jz (Zb (w_c (Zb (w_c (Zb (w_c (Zb (w_c (Zb (w_c (Zb (w_c (Zh ⟨by show 6<=sizeLine; decide,λ p hp=>?_⟩)))))))))))))))
   refine Zk (Zd rfl (w_c (Y5 (by decide) ?_)))
   have r0:=Int.emod_nonneg h (show (6:Int)≠0 by decide)
   have r1:=Int.emod_lt_of_pos h (show (0:Int)<6 by decide)
   generalize h % 6=m at r0 r1 ⊢
   have:∃ r:Int,atI [V.int 1,.int 2,.int 3,.int 4,.int 6,.int 12] m=some (.int r)/\1<=r/\r<=12:=by
    rcases (by omega:m=0\/m=1\/m=2\/m=3\/m=4\/m=5) with rfl | rfl | rfl | rfl | rfl | rfl
    · exact ⟨1,rfl,by decide,by decide⟩
    · exact ⟨2,rfl,by decide,by decide⟩
    · exact ⟨3,rfl,by decide,by decide⟩
    · exact ⟨4,rfl,by decide,by decide⟩
    · exact ⟨6,rfl,by decide,by decide⟩
    · exact ⟨12,rfl,by decide,by decide⟩
   obtain ⟨r,e,r1,r2⟩:=this
   exact Yo (SqL.of Zr) e (q r _ (Same.laid hp) r1 (by omega) (by omega))
 refine Z4 (Zk (w_c (Zk (Zd rfl (w_c (Y5 (by decide) (X8 (q _ _ (Same.refl _) (by omega) (by omega) (by omega)))))))))
end LB
namespace LB
open PySem L2
theorem Zti {K:Fq} {H:Hp} {Q:VK} {a b:Addr} {xs ys:List V} (h1:H a=some (.tup xs)) (h2:H b=some (.tup ys)) (hz:xs.length+ys.length<=1000) (k:∀ p H',Same H H'->H' p=some (.tup (xs++ys))->Q (.ref p) H'):rAddU K (.ref a) (.ref b) H Q:=by
 by_cases hx:xs=[]
 · subst hx
   exact .inr (.inr (.inl ⟨a,b,ys,rfl,rfl,SqT.of h1,SqT.of h2,k b H (Same.refl _) (by simpa using h2)⟩))
 · exact .inr (.inl ⟨a,b,xs,ys,rfl,rfl,SqT.of h1,SqT.of h2,hx,Z1w hz,λ z=>k a H (Same.refl _) (by subst z; simpa using h1),λ _ p hp=>k p _ (Same.laid hp) Zr⟩)
theorem Zzw {K:Fq} {H:Hp} {Q:VK} {a:Addr} {xs:List V} {j:Nat} (h:H a=some (.tup xs)) (hj:j<xs.length) (k:∀ p H',Same H H'->H' p=some (.tup (xs.take j))->Q (.ref p) H'):rSlU K (.ref a) none (some (j:Int)) H Q:=by
 have e1:HT.sIx xs.length xs.length (some (j:Int))=j:=by rw [HT.Zsp]; omega
 have e0:HT.sIx xs.length 0 none=0:=rfl
 refine .inl ⟨a,xs,rfl,SqT.of h,λ z=>by rw [e1] at z; omega,λ p hp=>k p _ (Same.laid hp) ?_⟩
 rw [Zr]
 unfold cutV
 rw [e1,e0]; simp
theorem Zu7 {K:Fq} {H:Hp} {Q:VK} {a:Addr} {xs:List V} {j:Nat} {i:Int} (h:H a=some (.tup xs)) (hi:i=(j:Int)) (h0:0<j) (hj:j<=xs.length) (k:∀ p H',Same H H'->H' p=some (.tup (xs.drop j))->Q (.ref p) H'):rSlU K (.ref a) (some i) none H Q:=by
 subst hi
 have e1:HT.sIx xs.length 0 (some (j:Int))=j:=by rw [HT.Zsp]; omega
 have e0:HT.sIx xs.length xs.length none=xs.length:=rfl
 refine .inl ⟨a,xs,rfl,SqT.of h,λ z=>by rw [e1] at z; omega,λ p hp=>k p _ (Same.laid hp) ?_⟩
 rw [Zr]
 unfold cutV
 rw [e1,e0,List.take_of_length_le (by rw [List.length_drop]; omega)]
theorem Zh2 {H:Hp} {p p1 p2:Addr} {d:List Int×List Int} (h:H p=some (.tup [.ref p1,.ref p2])) (h1:H p1=some (.tup (d.1.map V.int))) (h2:H p2=some (.tup (d.2.map V.int))):Rep H (.ref p) (dayD d):=by
 unfold dayD Rep
 refine ⟨p,_,rfl,h,?_⟩
 unfold Reps
 refine ⟨_,_,rfl,by unfold Rep; exact ⟨p1,_,rfl,h1,Reps.ints _⟩,?_⟩
 unfold Reps
 refine ⟨_,_,rfl,by unfold Rep; exact ⟨p2,_,rfl,h2,Reps.ints _⟩,?_⟩
 unfold Reps
 rfl
theorem Zhi {H:Hp}:∀ {ns:List Int} {xs:List V},Reps H xs (ns.map PyData.int)->xs=ns.map V.int
 | [],xs,h=>by unfold List.map Reps at h; exact h
 | n::ns,xs,h=>by
   rw [List.map_cons] at h
   unfold Reps at h
   obtain ⟨x,r,rfl,h1,h2⟩:=h
   unfold Rep at h1
   rw [h1,Zhi h2]; rfl
theorem Zey {H:Hp} {v:V} {d:List Int×List Int} (h:Rep H v (dayD d)):∃ p p1 p2,v=.ref p/\H p=some (.tup [.ref p1,.ref p2])/\H p1=some (.tup (d.1.map V.int))/\H p2=some (.tup (d.2.map V.int)):=by
 unfold dayD Rep at h
 obtain ⟨p,xs,rfl,hp,rs⟩:=h
 unfold Reps at rs
 obtain ⟨x0,r1,rfl,rd0,rs⟩:=rs
 unfold Reps at rs
 obtain ⟨x1,r2,rfl,rd1,rs⟩:=rs
 unfold Reps at rs
 subst rs
 unfold Rep at rd0 rd1
 obtain ⟨p1,ys1,rfl,h1,q1⟩:=rd0
 obtain ⟨p2,ys2,rfl,h2,q2⟩:=rd1
 rw [Zhi q1] at h1
 rw [Zhi q2] at h2
 exact ⟨p,p1,p2,rfl,hp,h1,h2⟩
theorem Zqq:∀ (ns:List Int),noLs (ns.map PyData.int)=true
 | []=>rfl
 | n::ns=>by
   show (noL (.int n) && noLs (ns.map PyData.int))=true
   rw [Zqq ns]; rfl
theorem Zsx (d:List Int×List Int):noL (dayD d)=true:=by
 unfold dayD
 simp only [noL,noLs,Zqq,Bool.and_self]
theorem Zr5 {K:Fq} {a b c:V} {H:Hp} {Q:VK} {E:XK} (h:Zim K a b c H Q E):Zdj K (Rt Q) [some a,some b,some c,none,none,none,none,none] H:=by
 obtain ⟨cc,w,p,ss,rfl,rfl,rfl,c0,c1,hp,n1,n8,hss,q⟩:=h
 unfold Zdj
 refine Zu (Z0 (Jz (Zh ⟨Nat.zero_le _,λ a1 ha1=>Zw ?_⟩)))
 refine Zu (Z0 (Jz (Zh ⟨Nat.zero_le _,λ a2 ha2=>Zw ?_⟩)))
 have n12:a1≠a2:=Qp Zr ha2
 have ha2':H a2=none:=(Same.laid ha1).free ha2
 have tail:∀ (c:Int) (b1 b2:Addr) (ps as:List Int) (r5 r6 r7:Option V) (H2:Hp),Same H H2->H b1=none->H b2=none->b1≠b2->H2 b1=some (.lst (ps.map V.int))->H2 b2=some (.lst (as.map V.int))->ps.length=ss.length->as.length=ss.length ->
  (∀ x∈ps,1<=x/\x<=1000000000)->(w=7->∀ x∈ps,x<=8)->(∀ x∈as,0<=x/\x<=1000000000) ->
  (Zv (Z6 (Z7 (Kc K) [] E0 (Za (Zc 1) (Za (Zc 3) (Za (Zc 4) (Za (Zc 2) (Za (tOp (rAddU K) (tC (.int 1)) (tOp rModU (tOp rDivU (Zc 0) (tC (.int 1000000000000000000000000000000))) (tC (.int 5)))) Zg)))))) (Zt 4))
   (Zv (Y0 (Y4 (tOp (rEqU K) (tCB (rSumU K) (Za (Zc 4) Zg)) (tC (.int 0)))) (Z6 (tC (.int 1)) (Zje (Zc 4) (tC (.int 0)) Zfp)) Yl)
   (Zz (Vt (Za (tCB (rTy_tuple K) (Za (Zc 3) Zg)) (Za (tCB (rTy_tuple K) (Za (Zc 4) Zg)) Zg)))))) (Rt Q) [some (.int c),some (.int w),some (.ref p),some (.ref b1),some (.ref b2),r5,r6,r7] H2:=by
  intro c b1 b2 ps as r5 r6 r7 H2 s2 f1 f2 nb h1 h2 l1 l2 hps h7 has
  have t0:=Int.emod_nonneg (c / 1000000000000000000000000000000) (show (5:Int)≠0 by decide)
  have t1:=Int.emod_lt_of_pos (c / 1000000000000000000000000000000) (show (0:Int)<5 by decide)
  refine Zu (Z0 (Z5 (Zb (Zd rfl (Zb (Zd rfl (Zb (Zd rfl (Zb (Zd rfl (Zb (Zk (w_c (Zk (Zk (Zd rfl (w_c (Qn (by decide) (by decide) (w_c (Y5 (by decide) (X8 (Zh ?_))))))))))))))))))))))
  refine ⟨_,_,_,_,_,rfl,w,_,b1,b2,p,ps,as,ss,rfl,rfl,rfl,rfl,rfl,h1,h2,s2 _ _ hp,by omega,by omega,by omega,by omega,hps,has,hss,by omega,by omega,h7,λ p4 rs H3 hp4 s3 h4 hl hr=>Zw ?_⟩
  have f4:H p4=none:=by
   rcases hp4 with e | e
   · rw [e]; exact f2
   · exact s2.free e
  have n4:b1≠p4:=by
   rcases hp4 with e | e
   · rw [e]; exact nb
   · exact Qp h1 e
  have fin:∀ (rs:List Int) (H4:Hp),Same H H4->H4 b1=some (.lst (ps.map V.int))->H4 p4=some (.lst (rs.map V.int))->rs.length=ss.length->(∀ x∈rs,0<=x/\x<=1000000001)->(∃ x∈rs,0<x) ->
   (Zz (Vt (Za (tCB (rTy_tuple K) (Za (Zc 3) Zg)) (Za (tCB (rTy_tuple K) (Za (Zc 4) Zg)) Zg)))) (Rt Q) [some (.int c),some (.int w),some (.ref p),some (.ref b1),some (.ref p4),r5,r6,r7] H4:=by
   intro rs H4 s4 g1 g4 hl hr hpos
   refine Z4 (Zcu (Zb (Ye (Zb (Zd rfl (Zh (Zgp (SqL.of g1) λ u1 hu1=>?_)))))))
   have e4:upd H4 u1 (.tup (ps.map V.int)) p4=some (.lst (rs.map V.int)):=Same.laid hu1 _ _ g4
   refine Zb (Ye (Zb (Zd rfl (Zh (Zgp (SqL.of e4) λ u2 hu2=>Zh ⟨by show 2<=sizeLine; decide,λ u3 hu3=>?_⟩)))))
   refine q _ (ps,rs) _ ((s4.laidT hu1).laidT hu2 |>.laidT hu3) (Zh2 Zr ?_ ?_) ⟨l1,hl,hps,λ x hx=>⟨(hr x hx).1,by have:=(hr x hx).2; omega⟩,hpos⟩ λ x hx=>(hr x hx).2
   · exact Same.laid hu3 _ _ (Same.laid hu2 _ _ Zr)
   · exact Same.laid hu3 _ _ Zr
  refine Zu (Yv (Xe (Zk (Ye (Zb (Zd rfl (Zh (Zjm (.inl (SqL.of h4)) (w_c (Qm (Xc (iteD (λ hz=>?_) λ hz=>?_))))))))))))
  · refine Z0 (w_c (Zor (Zd rfl (w_c (Zjn h4 (Zkv (by decide) (by rw [List.length_map]; omega)) ?_)))))
    refine fin (rs.set 0 1) _ ((s2.trans s3).put f4) (by rw [Z1 n4]; exact s3 _ _ h1) (by rw [Zr,Zd8]; rfl) (by rw [List.length_set]; omega) (λ x hx=>?_) ⟨1,List.mem_set (by omega) 1,by decide⟩
    rcases List.mem_or_eq_of_mem_set hx with e | e
    · exact hr x e
    · subst e; decide
  · exact Ys (fin rs H3 (s2.trans s3) (s3 _ _ h1) h4 (by omega) hr (Zkj (λ y hy=>(hr y hy).1) hz))
 refine Zu (Ze5 (Zba (Zb (Ye (Zb (Zd rfl (Zh (Ji (xs:=ss.map V.int) (SqL.of ?hp1) (Zh (⟨_,rfl,(Wc (by rw [List.length_map]; omega)).1,(Wc (by rw [List.length_map]; omega)).2,(Za3 (λ i σ H2=>∃ (c:Int) (ps as:List Int) (r5 r6:Option V),σ=[some (.int c),some (.int w),some (.ref p),some (.ref a1),some (.ref a2),r5,r6,none]/\0<=c/\Same H H2 /\
  H2 a1=some (.lst (ps.map V.int))/\H2 a2=some (.lst (as.map V.int))/\ps.length=i/\as.length=i/\(∀ x∈ps,1<=x/\x<=1000000000)/\(w=7->∀ x∈ps,x<=8)/\∀ x∈as,0<=x/\x<=1000000000) ⟨cc,[],[],none,none,rfl,c0,(Same.laid ha1).laidT ha2,by rw [Z1 n12]; exact Zr,Zr,rfl,rfl,λ x hx=>by simp at hx,λ _ x hx=>by simp at hx,λ x hx=>by simp at hx⟩ ?step ?done)⟩))))))))))
 case hp1=>exact Same.laid ha2 _ _ (Same.laid ha1 _ _ hp)
 case step =>
  rintro i σ H2 hi ⟨c,ps,as,r5,r6,rfl,d0,s,h1,h2,l1,l2,hps,h7,has⟩
  rw [List.length_map] at hi
  refine Zw (Zu (Z0 (Z5 (Zb (Zd rfl (Zh ⟨_,rfl,c,rfl,λ c' e0 e1=>Zw ?_⟩))))))
  refine Zu (Z0 (Zk (Zd rfl (w_c (Qn (by decide) (by decide) (Zw ?_))))))
  have g0:0<=c' / 1000000000000000:=Int.ediv_nonneg e0 (by decide)
  generalize c' / 1000000000000000=hh at g0 ⊢
  refine Zu (Jj (K1 (Zd rfl ⟨Zhy h1,Zb (Z5 (Zb (Zd rfl (Zb (Zd rfl (Zh ⟨_,_,rfl,w,hh,rfl,rfl,λ r H3 s3 r1 r2 r7=>Zh (Ziu (s3 _ _ h1) (Wt (by rw [List.length_map]; omega)) ?_)⟩))))))⟩)))
  have h2':upd H3 a1 (.lst (ps.map V.int++[.int r])) a2=some (.lst (as.map V.int)):=by rw [Z1 n12.symm]; exact s3 _ _ h2
  have sB:Same H (upd H3 a1 (.lst (ps.map V.int++[.int r]))):=(s.trans s3).put ha1
  refine Jj (K1 (Zd rfl ⟨Zhy h2',Zb (Zk (Jz (Zb (Zk (Zk (Zd rfl (w_c (Qn (by decide) (by decide) (w_c (Y5 (by decide) ?_))))))))))⟩))
  refine Zb (Zk (Zk (Zd rfl (w_c (Qn (by decide) (by decide) (w_c (Y5 (by decide) (Zh ⟨by show 2<=sizeLine; decide,λ a3 ha3=>?_⟩))))))))
  refine Ye (Zb (Zk (Zd rfl (w_c (Qm (Zh (Zjp ?_)))))))
  have x0:=Int.emod_nonneg (hh / 420) (show (4:Int)≠0 by decide)
  have x1:=Int.emod_lt_of_pos (hh / 420) (show (0:Int)<4 by decide)
  have y0:=Int.emod_nonneg (hh / 1000000000) (show (1000000000:Int)≠0 by decide)
  have y1:=Int.emod_lt_of_pos (hh / 1000000000) (show (0:Int)<1000000000 by decide)
  have i0:0<=(if decide (w=2)=true then (1:Int) else 0):=by split <;> decide
  have i1:(if decide (w=2)=true then (1:Int) else 0)<2:=by split <;> decide
  obtain ⟨v,ev,hv⟩:=at2 (a:=.int (hh / 420 % 4)) (b:=.int (hh / 1000000000 % 1000000000)) i0 i1
  obtain ⟨x,rfl,hx0,hx1⟩:∃ x:Int,v=.int x/\0<=x/\x<=1000000000:=by
   rcases hv with rfl | rfl
   · exact ⟨_,rfl,by omega,by omega⟩
   · exact ⟨_,rfl,by omega,by omega⟩
  refine Yo (SqL.of Zr) ev (Zh (Ziu (Same.laid ha3 _ _ h2') (Wt (by rw [List.length_map]; omega)) ?_))
  refine ⟨c',ps++[r],as++[x],_,_,rfl,e0,(sB.laidT ha3).put ha2',?_,by rw [Zr,List.map_append]; rfl,by simp [l1],by simp [l2],λ z hz=>?_,λ w7 z hz=>?_,λ z hz=>?_⟩
  · rw [Z1 n12]
    have:=Same.laid (o:=.lst [.int (hh / 420 % 4),.int (hh / 1000000000 % 1000000000)]) ha3 _ _ (Zr (H:=H3) (a:=a1) (o:=.lst (ps.map V.int++[.int r])))
    rw [this,List.map_append]; rfl
  · rcases List.mem_append.mp hz with e | e
    · exact hps z e
    · rw [List.mem_singleton.mp e]; exact ⟨r1,r2⟩
  · rcases List.mem_append.mp hz with e | e
    · exact h7 w7 z e
    · rw [List.mem_singleton.mp e]; exact r7 w7
  · rcases List.mem_append.mp hz with e | e
    · exact has z e
    · rw [List.mem_singleton.mp e]; exact ⟨hx0,hx1⟩
 case done =>
  rintro σ H2 ⟨c,ps,as,r5,r6,rfl,d0,s,h1,h2,l1,l2,hps,h7,has⟩
  rw [List.length_map] at l1 l2
  refine Zu (Yv (Xe (Zk (Zd rfl (w_c (Qm (Xc (iteD (λ hw=>?_) λ _=>Ys (tail c a1 a2 ps as r5 r6 none H2 s ha1 ha2' n12 h1 h2 l1 l2 hps h7 has)))))))))
  refine Zu (Z0 (Zk (Zk (Zd rfl (w_c (Qn (by decide) (by decide) (Ye (Zb (Zd rfl (Zh (Ji (SqL.of h1) (Y5 (by rw [List.length_map]; omega) (Zw ?_)))))))))))))
  rw [List.length_map]
  obtain ⟨at',eat,hat⟩:∃ k:Nat,c / 10000000000000000000000000 % (ps.length:Int)=(k:Int)/\k<ss.length:=by
   have r0:=Int.emod_nonneg (c / 10000000000000000000000000) (show (ps.length:Int)≠0 by omega)
   have r1:=Int.emod_lt_of_pos (c / 10000000000000000000000000) (show (0:Int)<ps.length by omega)
   exact ⟨(c / 10000000000000000000000000 % (ps.length:Int)).toNat,by omega,by omega⟩
  rw [eat]
  refine Zu (Z0 (Gj (p1:=p) (ps:=ss) rfl (s _ _ hp) n8 ⟨_,rfl⟩ (λ _ x=>1<=x/\x<=9) (λ i H3 R hi s3 k=>?_) λ b1 qs H3 hb1 s3 g1 gl gq=>Zw ?_))
  · refine Zk (Jz (Zb (w_c (Zb (Zk (w_c (Zk (Zd rfl (w_c (Y5 (by decide) (X8 (Zh ⟨by show 2<=sizeLine; decide,λ a3 ha3=>?_⟩))))))))))))
    have hp3:upd H3 a3 (.lst [.int 9,.int (2+c % 2)]) p=some (.lst (ss.map V.int)):=Same.laid ha3 _ _ (s3 _ _ (s _ _ hp))
    refine Ye (Zb (Zk (Zd rfl (Zk (Zk (Zd rfl (w_c (X8 (Ye (Zb (Zd rfl (Zh (Ji (SqL.of hp3) (Y5 (by rw [List.length_map]; omega) (Qm (Zh (Zjp ?_)))))))))))))))))
    generalize (decide ((i:Int)=((at':Int)+1) % ((ss.map V.int).length:Int)))=bb
    have i0:0<=(if bb=true then (1:Int) else 0):=by split <;> decide
    have i1:(if bb=true then (1:Int) else 0)<2:=by split <;> decide
    obtain ⟨v,ev,hv⟩:=at2 (a:=.int 9) (b:=.int (2+c % 2)) i0 i1
    refine Yo (SqL.of Zr) ev ?_
    rcases hv with rfl | rfl
    · exact k _ _ (Same.laid ha3) (by decide)
    · exact k _ _ (Same.laid ha3) (by omega)
  have sb:Same H H3:=s.trans s3
  refine Zu (Z0 (w_c (Zor (Zd rfl (Zd rfl (Zjn g1 (Zkv (by omega) (by rw [List.length_map]; omega)) ?_))))))
  have fb1:H b1=none:=s.free hb1
  have sb2:Same H (upd H3 b1 (.lst ((qs.map V.int).set (at':Int).toNat (.int 3)))):=sb.put fb1
  have gb:upd H3 b1 (.lst ((qs.map V.int).set (at':Int).toNat (.int 3))) b1=some (.lst ((qs.set at' 3).map V.int)):=by rw [Zr,Int.toNat_natCast,Zd8]
  refine Z0 (Gj (p1:=p) (ps:=ss) rfl (sb2 _ _ hp) n8 ⟨_,rfl⟩ (λ _ x=>0<=x/\x<=1) (λ i H4 R hi s4 k=>?_) λ b2 zs H4 hb2 s4 g2 gl2 gz=>Zw ?_)
  · refine Ye (Zb (Zk (Zd rfl (Zd rfl (Qm (Zh (Zjp (k _ _ (Same.refl _) ?_))))))))
    split <;> decide
  have nb12:b1≠b2:=Qp gb hb2
  refine tail c b1 b2 (qs.set at' 3) zs _ _ _ H4 (sb2.trans s4) fb1 (sb2.free hb2) nb12 (s4 _ _ gb) g2 (by rw [List.length_set]; exact gl) gl2 (λ x hx=>?_) (λ w7=>by omega) (λ x hx=>?_)
  · rcases List.mem_or_eq_of_mem_set hx with e | e
    · have:=Zf5 gq x e
      omega
    · subst e; decide
  · have:=Zf5 gz x hx
    omega
theorem Zs7 {H:Hp} {G:List Int×List Int->Prop}:∀ {ys:List V},(∀ (i:Nat) v,ys[i]?=some v->∃ d,Rep H v (dayD d)/\G d)->∃ B:List (List Int×List Int),Reps H ys (B.map dayD)/\∀ d∈B,G d
 | [],_=>⟨[],by unfold List.map Reps; rfl,λ d hd=>by simp at hd⟩
 | y::ys,h=>by
   obtain ⟨d,h1,h2⟩:=h 0 y rfl
   obtain ⟨B,h3,h4⟩:=Zs7 (ys:=ys) λ i v e=>h (i+1) v (by simpa using e)
   refine ⟨d::B,?_,λ e he=>?_⟩
   · rw [List.map_cons]
     unfold Reps
     exact ⟨y,ys,rfl,h1,h3⟩
   · rcases List.mem_cons.mp he with z | z
     · rw [z]; exact h2
     · exact h4 e z
theorem Reps.set {H:Hp}:∀ {ds:List PyData} {xs:List V} (k:Nat) {x:V} {d:PyData},Reps H xs ds->Rep H x d->Reps H (xs.set k x) (ds.set k d)
 | [],_,k,_,_,h,_=>by unfold Reps at h; subst h; unfold List.set Reps; rfl
 | e::ds,_,0,x,d,h,r=>by
   unfold Reps at h
   obtain ⟨y,t,rfl,h1,h2⟩:=h
   show Reps H (x::t) (d::ds)
   unfold Reps
   exact ⟨x,t,rfl,r,h2⟩
 | e::ds,_,k+1,x,d,h,r=>by
   unfold Reps at h
   obtain ⟨y,t,rfl,h1,h2⟩:=h
   show Reps H (y::t.set k x) (e::ds.set k d)
   unfold Reps
   exact ⟨y,_,rfl,h1,Reps.set k h2 r⟩
theorem Zfw:∀ (B:List (List Int×List Int)),noLs (B.map dayD)=true
 | []=>rfl
 | d::B=>by
   show (noL (dayD d) && noLs (B.map dayD))=true
   rw [Zsx,Zfw B]; rfl
theorem Zp8 {K:Fq} {a b c d:V} {H:Hp} {Q:VK} {E:XK} (h:Zhb K a b c d H Q E):Zbn K (Rt Q) [some a,some b,some c,some d,none,none,none,none,none,none,none] H:=by
 obtain ⟨l,ns,st,m,n,rfl,rfl,rfl,rfl,hl,hb,hst,m1,m8,n1,n6,q⟩:=h
 unfold Zbn
 refine Zu (Z0 (Z5 (Zb (Zd rfl (Zb (Zd rfl (Zh ⟨_,_,rfl,l,ns,st,rfl,rfl,hl,hb,by omega,Zw ?_⟩)))))))
 have c0:=Zrl ns st
 have c1:=Zrm ns st
 generalize Za6 ns st=c at c0 c1 ⊢
 refine Zu (Z0 (Zk (Jz (Zb (w_c (Zb (w_c (Zb (w_c (Zb (w_c (Zb (w_c (Zb (w_c (Zb (w_c (Zb (w_c (Zb (w_c (Zb (w_c (Zh ⟨by show 10<=sizeLine; decide,λ a1 ha1=>?_⟩))))))))))))))))))))))))
 refine Zk (Zk (Zd rfl (w_c (Qn (by decide) (by decide) (w_c (Y5 (by decide) ?_))))))
 have way:∃ w:Int,atI [V.int 0,.int 1,.int 0,.int 2,.int 8,.int 3,.int 4,.int 5,.int 6,.int 7] (c / 8 % 10)=some (.int w):=by
  have r0:=Int.emod_nonneg (c / 8) (show (10:Int)≠0 by decide)
  have r1:=Int.emod_lt_of_pos (c / 8) (show (0:Int)<10 by decide)
  generalize c / 8 % 10=z at r0 r1 ⊢
  rcases (by omega:z=0\/z=1\/z=2\/z=3\/z=4\/z=5\/z=6\/z=7\/z=8\/z=9) with rfl | rfl | rfl | rfl | rfl | rfl | rfl | rfl | rfl | rfl <;> exact ⟨_,rfl⟩
 obtain ⟨w,ew⟩:=way
 refine Yo (SqL.of Zr) ew (Zw ?_)
 have s1:Same H (upd H a1 (.lst [.int 0,.int 1,.int 0,.int 2,.int 8,.int 3,.int 4,.int 5,.int 6,.int 7])):=Same.laid ha1
 generalize upd H a1 (.lst [.int 0,.int 1,.int 0,.int 2,.int 8,.int 3,.int 4,.int 5,.int 6,.int 7])=H1 at s1 ⊢
 obtain ⟨k,ek,k1,k2⟩:∃ k:Nat,1+c % (n:Int)=(k:Int)/\1<=k/\k<=n:=by
  have r0:=Int.emod_nonneg c (show (n:Int)≠0 by omega)
  have r1:=Int.emod_lt_of_pos c (show (0:Int)<n by omega)
  exact ⟨(1+c % (n:Int)).toNat,by omega,by omega,by omega⟩
 refine Zu (Z0 (Z5 (Zb (Zd rfl (Zb (Zk (w_c (Zk (Zd rfl (Zd rfl (Y5 (by omega) (X8 (Zh ?_)))))))))))))
 rw [ek]
 refine ⟨_,_,rfl,c,k,rfl,rfl,k1,by omega,λ p ss H2 hp2 s2 hp hl2 hss hsum=>Zw ?_⟩
 have s12:=s1.trans s2
 obtain ⟨g,eg,g1,g2⟩:∃ g:Nat,1+c / 80 % (m:Int)=(g:Int)/\1<=g/\g<=m:=by
  have r0:=Int.emod_nonneg (c / 80) (show (m:Int)≠0 by omega)
  have r1:=Int.emod_lt_of_pos (c / 80) (show (0:Int)<m by omega)
  exact ⟨(1+c / 80 % (m:Int)).toNat,by omega,by omega,by omega⟩
 refine Zu (Z0 (Jk (Zba (Zb (Zk (w_c (Zk (Zk (Zd rfl (w_c (Qn (by decide) (by decide) (Zd rfl (Y5 (by omega) (X8 (Zh ?_)))))))))))))))
 rw [eg]
 refine ⟨_,rfl,(Wc (by omega)).1,(Wc (by omega)).2,λ D hD=>?_⟩
 refine Zir D (λ i v H=>∃ d,Rep H v (dayD d)/\GoodDay k d/\∀ x∈d.2,x<=1000000001) (λ i v H H' t ⟨d,r,z⟩=>⟨d,Rep.tu t _ _ (Zsx d) r,z⟩) (by omega) hD ⟨_,rfl⟩ (λ i H3 R hi s3 kk=>?_) (λ ys H3 hy hall s3 hD3=>Zw ?_)
 · have s13:=s12.trans s3
   refine Z5 (Zb (Z5 (Zb (Zd rfl (Zb (Zk (Zk (Zd rfl (w_c (X8 (Zd rfl (X8 (Zh ?_)))))))))))))
   refine ⟨_,_,rfl,l,ns,st+1+i,rfl,by simp,s13.seq hl,hb,by omega,?_⟩
   have e0:=Zrl ns (st+1+i)
   have e1:=Zrm ns (st+1+i)
   refine Zb (Zd rfl (Zb (Zd rfl (Zh ⟨_,_,_,rfl,_,w,p,ss,rfl,rfl,rfl,e0,e1,s3 _ _ hp,by omega,by omega,hss,λ v d H4 s4 r gd gx=>kk v H4 s4 ⟨d,r,?_,gx⟩⟩))))
   rw [← hl2]; exact gd
 obtain ⟨B,rB,gB⟩:=Zs7 (G:=λ d=>GoodDay k d/\∀ x∈d.2,x<=1000000001) (λ i v e=>by obtain ⟨d,h1,h2⟩:=hall i v e; exact ⟨d,h1,h2⟩)
 have lB:B.length=g:=by have:=rB.length; rw [List.length_map] at this; omega
 have s13:=s12.trans s3
 have fD:H D=none:=s12.free hD
 have fin:∀ (B:List (List Int×List Int)) (ys:List V) (H4:Hp) r8 r9 r10,Same H H4->H4 D=some (.lst ys)->Reps H4 ys (B.map dayD)->B.length=g->(∀ d∈B,GoodDay k d/\∀ x∈d.2,x<=1000000002) ->
  (Zz (tCB (rTy_tuple K) (Za (Zc 7) Zg))) (Rt Q) [some (.ref l),some (.int st),some (.int m),some (.int n),some (.int c),some (.int w),some (.ref p),some (.ref D),r8,r9,r10] H4:=by
  intro B ys H4 r8 r9 r10 s4 hD4 r4 l4 g4
  refine Z4 (Ye (Zb (Zd rfl (Zh (Zgp (SqL.of hD4) λ u hu=>?_)))))
  refine q _ B k _ (s4.laidT hu) ?_ ⟨k1,by omega,by omega,by omega,λ d hd=>(g4 d hd).1⟩ k2 λ d hd=>(g4 d hd).2
  unfold Qd Rep
  exact ⟨u,ys,rfl,Zr,Reps.mono (Same.laid hu) _ _ r4⟩
 have gB2:∀ d∈B,GoodDay k d/\∀ x∈d.2,x<=1000000002:=λ d hd=>⟨(gB d hd).1,λ x hx=>by have:=(gB d hd).2 x hx; omega⟩
 refine Zu (Yv (Xe (Zk (Zk (Zk (Zd rfl (w_c (Qn (by decide) (by decide) (w_c (Y5 (by decide) (w_c (Qm (Xc (iteD (λ _=>?_) λ _=>Ys (fin B ys H3 _ _ _ s13 hD3 rB lB gB2)))))))))))))))
 refine Zu (Z0 (Zk (Zk (Zd rfl (w_c (Qn (by decide) (by decide) (Ye (Zb (Zd rfl (Zh (Ji (SqL.of hD3) (Y5 (by omega) (Zw ?_)))))))))))))
 have hpp:H3 p=some (.lst (ss.map V.int)):=s3 _ _ hp
 refine Zu (Z0 (Zk (Zk (Zd rfl (w_c (Qn (by decide) (by decide) (Ye (Zb (Zd rfl (Zh (Ji (SqL.of hpp) (Y5 (by rw [List.length_map]; omega) (Zw ?_)))))))))))))
 rw [List.length_map]
 obtain ⟨kk,ekk,hkk⟩:∃ z:Nat,c / 4000 % (ys.length:Int)=(z:Int)/\z<ys.length:=by
  have r0:=Int.emod_nonneg (c / 4000) (show (ys.length:Int)≠0 by omega)
  have r1:=Int.emod_lt_of_pos (c / 4000) (show (0:Int)<ys.length by omega)
  exact ⟨(c / 4000 % (ys.length:Int)).toNat,by omega,by omega⟩
 obtain ⟨j,ej,hj⟩:∃ z:Nat,c / 40000 % (ss.length:Int)=(z:Int)/\z<ss.length:=by
  have r0:=Int.emod_nonneg (c / 40000) (show (ss.length:Int)≠0 by omega)
  have r1:=Int.emod_lt_of_pos (c / 40000) (show (0:Int)<ss.length by omega)
  exact ⟨(c / 40000 % (ss.length:Int)).toNat,by omega,by omega⟩
 rw [ekk,ej]
 obtain ⟨d,hd⟩:∃ d,B[kk]?=some d:=⟨B[kk]'(by omega),by simp [show kk<B.length by omega]⟩
 obtain ⟨v,hv⟩:∃ v,ys[kk]?=some v:=⟨ys[kk],by simp [hkk]⟩
 obtain ⟨d',hd',rd⟩:=rB.get hv
 rw [List.getElem?_map,hd] at hd'
 cases hd'
 obtain ⟨pd,p1,p2,rfl,e1,e2,e3⟩:=Zey rd
 have gd:=(gB d (List.mem_of_getElem? hd)).1
 have gx:=(gB d (List.mem_of_getElem? hd)).2
 have l2:=gd.l2
 refine Zu (Z0 (Zk (Zk (Z1k (Zk (Zk (Zd rfl (Zd rfl (Yo (SqL.of hD3) (Vh hv) (w_c (Xx (SqT.of e1) (v:=.ref p2) rfl (Zo9 (Zu1 (Zd rfl (Zy2 (Zzw e3 (by rw [List.length_map]; omega) λ t1 H4 s4 f1=>?_))))))))))))))))
 have hD4:=s4 _ _ hD3
 have e1':=s4 _ _ e1
 have e3':=s4 _ _ e3
 refine Zcu (Zb (Zk (Zk (Zk (Zk (Zd rfl (Zd rfl (Yo (SqL.of hD4) (Vh hv) (w_c (Xx (SqT.of e1') (v:=.ref p2) rfl (Zd rfl (Xx (SqT.of e3') (ixi (by omega)) (w_c (X8 (Zh ⟨by show 1<=sizeLine; decide,λ t2 ht2=>?_⟩)))))))))))))))
 have f1':upd H4 t2 (.tup [.int (d.2.getD j 0+1)]) t1=some (.tup ((d.2.map V.int).take j)):=Same.laid ht2 _ _ f1
 have s5:Same H4 (upd H4 t2 (.tup [.int (d.2.getD j 0+1)])):=Same.laid ht2
 refine Zti f1' Zr (by rw [List.length_take,List.length_map]; show min j d.2.length+1<=1000; omega) λ t3 H6 s6 f3=>?_
 have hD6:=s6 _ _ (s5 _ _ hD4)
 have e1'':=s6 _ _ (s5 _ _ e1')
 have e3'':=s6 _ _ (s5 _ _ e3')
 refine Z1k (Zk (Zk (Zd rfl (Zd rfl (Yo (SqL.of hD6) (Vh hv) (w_c (Xx (SqT.of e1'') (v:=.ref p2) rfl (Zu1 (Zk (Zd rfl (w_c (X8 (Zy2 (Zo9 (Zu7 (j:=j+1) e3'' (by simp) (by omega) (by rw [List.length_map]; omega) λ t4 H7 s7 f4=>?_)))))))))))))))
 refine Zti (s7 _ _ f3) f4 (by simp; omega) λ t5 H8 s8 f5=>Zw ?_
 have s38:Same H3 H8:=(((s4.trans s5).trans s6).trans s7).trans s8
 have hD8:=s38 _ _ hD3
 have e18:=s38 _ _ e1
 refine Z0 (Zcu (Zb (Zk (Zk (Zd rfl (Zd rfl (Yo (SqL.of hD8) (Vh hv) (w_c (Xx (SqT.of e18) (v:=.ref p1) rfl (Zb (Zd rfl (Zh ⟨by show 2<=sizeLine; decide,λ t6 ht6=>?_⟩))))))))))))
 have s9:Same H8 (upd H8 t6 (.tup [.ref p1,.ref t5])):=Same.laid ht6
 refine Zor (Zd rfl (Zd rfl (Zjn (s9 _ _ hD8) (Zkv (by omega) (by omega)) ?_)))
 rw [Int.toNat_natCast]
 have eam:(d.2.map V.int).take j++[V.int (d.2.getD j 0+1)]++(d.2.map V.int).drop (j+1)=(d.2.set j (d.2.getD j 0+1)).map V.int:=by
  rw [List.map_set,List.set_eq_take_append_cons_drop,if_pos (by rw [List.length_map]; omega)]
  simp
 rw [eam] at f5
 have tu:=Tu.put (ys:=ys.set kk (.ref t6)) (s9 _ _ hD8)
 refine fin (B.set kk (d.1,d.2.set j (d.2.getD j 0+1))) (ys.set kk (.ref t6)) _ _ _ _ ?_ Zr ?_ (by rw [List.length_set]; exact lB) (λ e he=>?_)
 · exact ((s13.trans s38).trans s9).put fD
 · have r1:Reps (upd (upd H8 t6 (.tup [.ref p1,.ref t5])) D (.lst (ys.set kk (.ref t6)))) ys (B.map dayD):=Reps.tu ((s38.trans s9).tu.trans tu) _ _ (Zfw B) rB
   have:=Reps.set kk (x:=.ref t6) (d:=dayD (d.1,d.2.set j (d.2.getD j 0+1))) r1 (Zh2 (p1:=p1) (p2:=t5) (tu _ _ Zr) (tu _ _ (s9 _ _ (s38 _ _ e2))) (tu _ _ (s9 _ _ f5)))
   rw [List.map_set]; exact this
 · rcases List.mem_or_eq_of_mem_set he with z | z
   · exact gB2 e z
   · subst z
     have hg:=gd.am _ (Qx (show j<d.2.length by omega))
     have hg2:=gx _ (Qx (show j<d.2.length by omega))
     refine ⟨⟨gd.l1,by rw [List.length_set]; exact l2,gd.pr,λ x hx=>?_,⟨_,List.mem_set (by omega) _,by omega⟩⟩,λ x hx=>?_⟩
     · rcases List.mem_or_eq_of_mem_set hx with z | z
       · exact gd.am x z
       · subst z; omega
     · rcases List.mem_or_eq_of_mem_set hx with z | z
       · have:=gx x z
         omega
       · subst z; omega
theorem Zlq {ns:List Int} {f:PyData->Bool} {P:Int->Prop} (hf:∀ x,P x->f (.int x)=true) (h:∀ x∈ns,P x):(ns.map PyData.int).all f=true:=by
 rw [List.all_eq_true]
 intro d hd
 obtain ⟨x,hx,rfl⟩:=List.mem_map.mp hd
 exact hf x (h x hx)
theorem Zcq {n:Nat} {d:List Int×List Int} (h:GoodDay n d) (h1:1<=n) (h6:n<=6):Qs (dayD d)=true/\Ja (dayD d)=n:=by
 have e1:(d.1.map PyData.int).length=n:=by rw [List.length_map]; exact h.l1
 have e2:(d.2.map PyData.int).length=n:=by rw [List.length_map]; exact h.l2
 refine ⟨?_,e1⟩
 unfold Qs
 show (true && Qe (.tuple (d.1.map PyData.int)) && Wh (.tuple (d.2.map PyData.int)) && decide ((d.1.map PyData.int).length=(d.2.map PyData.int).length))=true
 have p1:Qe (.tuple (d.1.map PyData.int))=true:=by
  unfold Qe
  show ((decide (1<=(d.1.map PyData.int).length) && decide ((d.1.map PyData.int).length<=6)) && (d.1.map PyData.int).all Zco)=true
  rw [e1,decide_eq_true h1,decide_eq_true h6,Zlq (P:=λ x=>1<=x/\x<=1000000000) (λ x hx=>by show (decide (1<=x) && decide (x<=1000000000))=true; rw [decide_eq_true hx.1,decide_eq_true hx.2]; rfl) h.pr]; rfl
 have p2:Wh (.tuple (d.2.map PyData.int))=true:=by
  unfold Wh
  show ((decide (1<=(d.2.map PyData.int).length) && decide ((d.2.map PyData.int).length<=6)) && (d.2.map PyData.int).all Zcp && (d.2.map PyData.int).any posD)=true
  have p3:(d.2.map PyData.int).any posD=true:=by
   obtain ⟨x,hx,h0⟩:=h.ps
   exact List.any_eq_true.mpr ⟨.int x,List.mem_map.mpr ⟨x,hx,rfl⟩,decide_eq_true h0⟩
  rw [e2,decide_eq_true h1,decide_eq_true h6,p3,Zlq (P:=λ x=>0<=x/\x<=1000000000000000000) (λ x hx=>by show (decide (0<=x) && decide (x<=1000000000000000000))=true; rw [decide_eq_true hx.1,decide_eq_true hx.2]; rfl) h.am]; rfl
 rw [p1,p2,e1,e2,decide_eq_true rfl]; rfl
theorem Zwq {m n:Nat} {B:List (List Int×List Int)} (h:GoodBook m n B) (hm:m<=8):Xo (Qd B)=true:=by
 unfold Xo Qd
 show ((decide (1<=(B.map dayD).length) && decide ((B.map dayD).length<=8)) && (B.map dayD).all Qs && (B.map dayD).all λ e=>decide (Ja e=Ja ((B.map dayD).getD 0 .none)))=true
 have hl:(B.map dayD).length=B.length:=List.length_map ..
 have a1:(B.map dayD).all Qs=true:=by
  rw [List.all_eq_true]
  intro e he
  obtain ⟨d,hd,rfl⟩:=List.mem_map.mp he
  exact (Zcq (h.dy d hd) h.n1 h.n6).1
 have w0:Ja ((B.map dayD).getD 0 .none)=n:=by
  have:0<B.length:=h.m1
  have e:(B.map dayD).getD 0 .none=dayD B[0]:=by rw [List.getD,List.getElem?_map,List.getElem?_eq_getElem this]; rfl
  rw [e]
  exact (Zcq (h.dy _ (List.getElem_mem this)) h.n1 h.n6).2
 have a2:((B.map dayD).all λ e=>decide (Ja e=Ja ((B.map dayD).getD 0 .none)))=true:=by
  rw [List.all_eq_true]
  intro e he
  obtain ⟨d,hd,rfl⟩:=List.mem_map.mp he
  rw [w0]
  exact decide_eq_true (Zcq (h.dy d hd) h.n1 h.n6).2
 have:=h.m1
 have:=h.m8
 rw [hl,a1,a2,decide_eq_true (by omega:1<=B.length),decide_eq_true (by omega:B.length<=8)]; rfl
end LB
namespace LB
open PySem L2
def dotF (ps as:List Int):Int:=(List.zipWith (· * ·) ps as).sum
def Jd (B:List (List Int×List Int)) (i j:Nat):Int:=dotF (B.getD i ([],[])).1 (B.getD j ([],[])).2
def InB (B:List (List Int×List Int)) (x:Int):Prop:=0<=x/\x<(B.length:Int)
abbrev NoD (mg:Str->Option Value):Value:=.ref (clsA mg "NoDay")
def Zby (K:Fq) (mg:Str->Option Value) (a b:V) (H:Hp) (Q:VK) (E:XK):Prop:=∃ (B:List (List Int×List Int)) (x:Int),Rep H a (Qd B)/\b=.int x/\(InB B x->Q .non H)/\(¬ InB B x->E (NoD mg) none H)
def Vw (K:Fq) (mg:Str->Option Value):Sp:=sp2 (Zby K mg)
def Zj6 (K:Fq) (a b:V) (H:Hp) (Q:VK) (E:XK):Prop:=∃ (p q:Addr) (ps as:List Int),a=.ref p/\b=.ref q/\H p=some (.tup (ps.map V.int))/\H q=some (.tup (as.map V.int))/\as.length=ps.length/\ps.length<=8/\(∀ x∈ps,1<=x/\x<=1000000000)/\∀ H',Same H H'->Q (.int (dotF ps as)) H'
def Zfg (K:Fq):Sp:=sp2 (Zj6 K)
def Zl6 (K:Fq) (mg:Str->Option Value) (a b c:V) (H:Hp) (Q:VK) (E:XK):Prop:=∃ (B:List (List Int×List Int)) (m n:Nat) (x y:Int),Rep H a (Qd B)/\GoodBook m n B/\b=.int x/\c=.int y /\
 (InB B x->InB B y->∀ H',Same H H'->Q (.int (Jd B x.toNat y.toNat)) H')/\(¬ (InB B x/\InB B y)->E (NoD mg) none H)
def Zlz (K:Fq) (mg:Str->Option Value):Sp:=sp3 (Zl6 K mg)
def Zg9 (K:Fq) (a b c:V) (H:Hp) (Q:VK) (E:XK):Prop:=∃ (B:List (List Int×List Int)) (m n:Nat) (x y:Int),Rep H a (Qd B)/\GoodBook m n B/\b=.int x/\c=.int y/\InB B x/\InB B y/\∀ H',Same H H'->Q (.int (Jd B x.toNat y.toNat)) H'
def V0 (K:Fq):Sp:=sp3 (Zg9 K)
def Vm (K:Fq) (mg:Str->Option Value) (E:XK):TS :=
 (Y0 (Kf (Y4 (Vu rLeU rLtU (tC (.int 0)) (Zc 1) (tCB (rLenU K) (Za (Zc 0) Zg))))) (Wm E (.ref (clsA mg "NoDay")) (Za (tC (.str "the book has no day of this number")) Zg)) Yl)
def Zfc (K:Fq):TS :=
 (Zz (tCB (rSumU K) (Za (Xq [none,none] (Zh7 K (Za (Zc 0) (Za (Zc 1) Zg))) (Zhp K 2 (Wl (Zt 0) (Wl (Zt 1) Zf2))) Qa (tOp (rMulU K) (Zc 0) (Zc 1))) Zg)))
def Zh0 (K:Fq) (mg:Str->Option Value) (E:XK):TS :=
 (Zv (J2 (Z7 (Vw K mg) [] E (Za (Zc 0) (Za (Zc 1) Zg))))
  (Zv (J2 (Z7 (Vw K mg) [] E (Za (Zc 0) (Za (Zc 2) Zg))))
  (Zz (Z7 (Zfg K) [] E0 (Za (tOp (rIx K) (tOp (rIx K) (Zc 0) (Zc 1)) (tC (.int 0))) (Za (tOp (rIx K) (tOp (rIx K) (Zc 0) (Zc 2)) (tC (.int 1))) Zg))))))
def Zbl (K:Fq):TS :=
 (Zz (tCB (rSumU K) (Za (Xq [none,none] (Zh7 K (Za (tOp (rIx K) (tOp (rIx K) (Zc 0) (Zc 1)) (tC (.int 0))) (Za (tOp (rIx K) (tOp (rIx K) (Zc 0) (Zc 2)) (tC (.int 1))) Zg))) (Zhp K 2 (Wl (Zt 0) (Wl (Zt 1) Zf2))) Qa (tOp (rMulU K) (Zc 0) (Zc 1))) Zg)))
theorem Zjo {te:TE} {D:Ends} {r:VK} {b c:St->Hp->Prop} {σ:St} {H:Hp} (h:te σ H D.rt):Yl { nx:=Zz te D,rt:=r,bk:=b,ct:=c } σ H:=h
theorem Zo4 {K:Fq} {ta:TA} {σ:St} {H:Hp} {R:It->Hp->Prop} (h:ta σ H λ vs H1=>∃ a b,vs=[.ref a,.ref b]/\(∃ xs,SqT K H1 a xs)/\(∃ ys,SqT K H1 b ys)/\R (Itz K a b) H1):Zh7 K ta σ H R:=h
theorem W4 {E:XK} {C:Value} {t:TA} {D:Ends} {σ:St} {H:Hp} (h:t σ H λ vs H1=>vs.length<=sizeLine/\E C none H1):Wm E C t D σ H:=h
theorem Zri {K:Fq} {a b:Addr} {ps as:List Int} {H1:Hp} {σ:St} {l:List (Option Nat)} {Q:Hp->Prop} (D:Addr) (ha:H1 a=some (.tup (ps.map V.int))) (hb:H1 b=some (.tup (as.map V.int))) (hl:as.length=ps.length) (hn:ps.length<=8)
 (hp:∀ x∈ps,1<=x/\x<=1000000000) (hD:H1 D=none) (hini:∃ r0 r1,X5 l σ=[r0,r1]) (hd:∀ H,Same H1 H->H D=some (.lst ((List.zipWith (· * ·) ps as).map V.int))->Q H) :
 ∃ W:CompW,(∃ m,W 0 m [] (X5 l σ) (upd H1 D (.lst [])))/\Jt (Itz K a b) (Zhp K 2 (Wl (Zt 0) (Wl (Zt 1) Zf2))) Qa (tOp (rMulU K) (Zc 0) (Zc 1)) D W Q:=by
 obtain ⟨r0,r1,hini⟩:=hini
 refine ⟨λ i m ys σ H=>m=ps.length-i/\i<=ps.length/\H D=some (.lst ys)/\Same H1 H/\ys=((List.zipWith (· * ·) ps as).take i).map V.int/\∃ r0 r1,σ=[r0,r1],⟨_,rfl,Nat.zero_le _,Zr,Same.laid hD,by simp,r0,r1,hini⟩,?_⟩
 rintro i m ys σ H ⟨rfl,hi,hH,s1,rfl,q0,q1,rfl⟩
 refine ⟨hH,?_⟩
 have ea:=SqT.of (K:=K) (s1 _ _ ha)
 have eb:=SqT.of (K:=K) (s1 _ _ hb)
 by_cases hlt:i<ps.length
 · have hx:(ps.map V.int)[i]?=some (.int (ps.getD i 0)):=Ux hlt
   have hy:(as.map V.int)[i]?=some (.int (as.getD i 0)):=Ux (by omega)
   have hz:(List.zipWith (· * ·) ps as)[i]?=some (ps.getD i 0*as.getD i 0):=by
    rw [List.getElem?_map] at hx hy
    have hx':ps[i]?=some (ps.getD i 0):=by cases e:ps[i]? with
     | none=>rw [e] at hx; cases hx
     | some z=>rw [e] at hx; simpa using hx
    have hy':as[i]?=some (as.getD i 0):=by cases e:as[i]? with
     | none=>rw [e] at hy; cases hy
     | some z=>rw [e] at hy; simpa using hy
    rw [List.getElem?_zipWith,hx',hy']
   refine .inr ⟨⟨_,_,_,_,ea,eb,hx,hy⟩,λ v σ2 H4=>v=.int (ps.getD i 0*as.getD i 0)/\Same H1 H4/\H4 D=some (.lst (((List.zipWith (· * ·) ps as).take i).map V.int))/\∃ r0 r1,σ2=[r0,r1],λ _ _=>False,?_,λ _ _ z=>z.elim,?_⟩
   · rintro v σ2 H4 ⟨rfl,s4,h4,z⟩
     refine ⟨h4,Wt (by simp; omega),ps.length-(i+1),by omega,rfl,hlt,Zr,s4.put hD,?_,z⟩
     rw [List.take_succ,hz,List.map_append]; rfl
   · rintro v H' ⟨p,x,y,hp0,rfl,gx,gy,rfl⟩
     have e1:x=.int (ps.getD i 0):=by have:=gx _ ea; rw [hx] at this; cases this; rfl
     have e2:y=.int (as.getD i 0):=by have:=gy _ eb; rw [hy] at this; cases this; rfl
     subst e1 e2
     have hb:=hp _ (Qx hlt)
     refine Zpc (SqT.of Zr) rfl (Vf (Zw (Vf (Zw (Zjq (Ze4 (iteT ?_)))))))
     exact Zk (Zd rfl (Zd rfl (Jc (W7 (by omega) (by omega)) ⟨rfl,s1.laidT hp0,Same.laid hp0 _ _ hH,_,_,rfl⟩)))
 · have e:i=ps.length:=by omega
   subst e
   refine .inl ⟨⟨_,_,ea,eb,.inl (by simp)⟩,hd H s1 ?_⟩
   rw [hH,List.take_of_length_le (by simp; omega)]
theorem Zjk {H:Hp} {v:V} {B:List (List Int×List Int)} (h:Rep H v (Qd B)):∃ p xs,v=.ref p/\H p=some (.tup xs)/\xs.length=B.length /\
 ∀ i,i<B.length->∃ q p1 p2,xs[i]?=some (.ref q)/\H q=some (.tup [.ref p1,.ref p2])/\H p1=some (.tup ((B.getD i ([],[])).1.map V.int))/\H p2=some (.tup ((B.getD i ([],[])).2.map V.int)):=by
 unfold Qd Rep at h
 obtain ⟨p,xs,rfl,hp,rs⟩:=h
 have hl:xs.length=B.length:=by have:=rs.length; rwa [List.length_map] at this
 refine ⟨p,xs,rfl,hp,hl,λ i hi=>?_⟩
 obtain ⟨d,hd,rd⟩:=rs.get (i:=i) (x:=xs[i]'(by omega)) (by simp)
 rw [List.getElem?_map] at hd
 have e:B[i]?=some (B.getD i ([],[])):=by simp [hi]
 rw [e] at hd
 have e2:dayD (B.getD i ([],[]))=d:=by simpa using hd
 rw [← e2] at rd
 obtain ⟨q,p1,p2,e3,h1,h2,h3⟩:=Zey rd
 exact ⟨q,p1,p2,by rw [← e3]; simp,h1,h2,h3⟩
theorem Gz {n:Nat} {B:List (List Int×List Int)} {i:Nat} (h:∀ d∈B,GoodDay n d) (hi:i<B.length):GoodDay n (B.getD i ([],[])):=by
 have e:B.getD i ([],[])=B[i]:=by simp [hi]
 rw [e]; exact h _ (List.getElem_mem hi)
theorem Zcb {K:Fq} {mg:Str->Option Value} {a b:V} {H:Hp} {Q:VK} {E:XK} (h:Zby K mg a b H Q E):Vm K mg E (Rt Q) [some a,some b] H:=by
 obtain ⟨B,x,r,rfl,q1,q2⟩:=h
 obtain ⟨p,xs,rfl,hp,hl,_⟩:=Zjk r
 unfold Vm
 refine Yv (w_not (Xe (Za7 (w_c (Zd rfl (Vk ⟨_,rfl,iteD (λ h0=>?_) λ h0=>?_⟩))))))
 · refine Ye (Zb (Zd rfl (Zh (Vj (SqT.of hp) (Ztg (Xc (iteN (λ h1=>?_) λ h1=>?_)))))))
   · exact W4 (Zb (w_c (Zh ⟨by show 1<=sizeLine; decide,q2 λ z=>h1 (by rw [hl]; exact z.2)⟩)))
   · exact Ys (q1 ⟨h0,by rw [hl] at h1; exact h1⟩)
 · refine Xc (iteT ?_)
   exact W4 (Zb (w_c (Zh ⟨by show 1<=sizeLine; decide,q2 λ z=>h0 z.1⟩)))
theorem Zt0 {K:Fq} {a b:V} {H:Hp} {Q:VK} {E:XK} (h:Zj6 K a b H Q E):Zfc K (Rt Q) [some a,some b] H:=by
 obtain ⟨u1,v2,ps,as,rfl,rfl,e3,f4,hl,hn,hp,q⟩:=h
 unfold Zfc
 refine Z4 (Ye (Zb (Jk (Zo4 (Zb (Zd rfl (Zb (Zd rfl (Zh ⟨u1,v2,rfl,⟨_,SqT.of e3⟩,⟨_,SqT.of f4⟩,λ D hD=>?_⟩)))))))))
 refine Zri D e3 f4 hl hn hp hD ⟨_,_,rfl⟩ λ H' s' hD'=>?_
 exact Zh (Zjm (.inl (SqL.of hD')) (q H' s'))
theorem Zmb {K:Fq} {mg:Str->Option Value} {a b c:V} {H:Hp} {Q:VK} {E:XK} (h:Zl6 K mg a b c H Q E):Zh0 K mg E (Rt Q) [some a,some b,some c] H:=by
 obtain ⟨B,m,n,x,y,r,gB,rfl,rfl,q1,q2⟩:=h
 unfold Zh0
 refine Zu (Jj (Z5 (Zb (Zd rfl (Zb (Zd rfl (Zh ⟨_,_,rfl,B,x,r,rfl,λ okx=>?_,λ bad=>q2 λ z=>bad z.1⟩)))))))
 refine Zu (Jj (Z5 (Zb (Zd rfl (Zb (Zd rfl (Zh ⟨_,_,rfl,B,y,r,rfl,λ oky=>?_,λ bad=>q2 λ z=>bad z.2⟩)))))))
 obtain ⟨p,xs,rfl,hp,hl,dd⟩:=Zjk r
 have lx:x.toNat<B.length:=by have:=okx.1; have:=okx.2; omega
 have ly:y.toNat<B.length:=by have:=oky.1; have:=oky.2; omega
 obtain ⟨u,u1,u2,e1,e2,e3,e4⟩:=dd _ lx
 obtain ⟨v,v1,v2,f1,f2,f3,f4⟩:=dd _ ly
 have gx:=Gz gB.dy lx
 have gy:=Gz gB.dy ly
 refine Z4 (Z5 (Zb (Zk (Zk (Zd rfl (Zd rfl (Xx (SqT.of hp) (Xv okx.1 e1) (w_c (Xx (v:=.ref u1) (SqT.of e2) rfl ?_)))))))))
 refine Zb (Zk (Zk (Zd rfl (Zd rfl (Xx (SqT.of hp) (Xv oky.1 f1) (w_c (Xx (v:=.ref v2) (SqT.of f2) rfl ?_)))))))
 exact Zh ⟨_,_,rfl,u1,v2,_,_,rfl,rfl,e3,f4,by rw [gx.l1,gy.l2],by rw [gx.l1]; have:=gB.n6; omega,gx.pr,λ H' s'=>q1 okx oky H' s'⟩
theorem Zp6 {K:Fq} {a b c:V} {H:Hp} {Q:VK} {E:XK} (h:Zg9 K a b c H Q E):Zbl K (Rt Q) [some a,some b,some c] H:=by
 obtain ⟨B,m,n,x,y,r,gB,rfl,rfl,okx,oky,q⟩:=h
 unfold Zbl
 obtain ⟨p,xs,rfl,hp,hl,dd⟩:=Zjk r
 have lx:x.toNat<B.length:=by have:=okx.1; have:=okx.2; omega
 have ly:y.toNat<B.length:=by have:=oky.1; have:=oky.2; omega
 obtain ⟨u,u1,u2,e1,e2,e3,e4⟩:=dd _ lx
 obtain ⟨v,v1,v2,f1,f2,f3,f4⟩:=dd _ ly
 have gx:=Gz gB.dy lx
 have gy:=Gz gB.dy ly
 refine Z4 (Ye (Zb (Jk (Zo4 ?_))))
 refine Zb (Zk (Zk (Zd rfl (Zd rfl (Xx (SqT.of hp) (Xv okx.1 e1) (w_c (Xx (v:=.ref u1) (SqT.of e2) rfl ?_)))))))
 refine Zb (Zk (Zk (Zd rfl (Zd rfl (Xx (SqT.of hp) (Xv oky.1 f1) (w_c (Xx (v:=.ref v2) (SqT.of f2) rfl ?_)))))))
 refine Zh ⟨u1,v2,rfl,⟨_,SqT.of e3⟩,⟨_,SqT.of f4⟩,λ D hD=>?_⟩
 refine Zri D e3 f4 (by rw [gx.l1,gy.l2]) (by rw [gx.l1]; have:=gB.n6; omega) gx.pr hD ⟨_,_,rfl⟩ λ H' s' hD'=>?_
 exact Zh (Zjm (.inl (SqL.of hD')) (q H' s'))
theorem Gh {H:Hp} {p:Addr} {xs:List V} {ds:List PyData} (h:H p=some (.tup xs)) (r:Reps H xs ds):Rep H (.ref p) (.tuple ds):=by
 unfold Rep; exact ⟨p,xs,rfl,h,r⟩
theorem Vb {H:Hp}:Reps H [] []:=by unfold Reps; rfl
theorem Ea {H:Hp} {x:V} {xs:List V} {d:PyData} {ds:List PyData} (h:Rep H x d) (r:Reps H xs ds):Reps H (x::xs) (d::ds):=by
 unfold Reps; exact ⟨x,xs,rfl,h,r⟩
theorem Zi4 {H:Hp}:∀ {xs ys:List V} {ds es:List PyData},Reps H xs ds->Reps H ys es->Reps H (xs++ys) (ds++es)
 | xs,ys,[],es,h,g=>by unfold Reps at h; subst h; exact g
 | xs,ys,d::ds,es,h,g=>by
   unfold Reps at h
   obtain ⟨x,r,rfl,h1,h2⟩:=h
   exact Ea h1 (Zi4 h2 g)
end LB
namespace L2
open PySem PySem.Spec PyProof.Rows
section
variable {κ:Type} [DecidableEq κ]
def valV (kvs:List (κ×V)) (k:κ):Option V:=(kvs.find? λ kv=>decide (kv.1=k)).map (·.2)
def putK (kvs:List (κ×V)) (k:κ) (v:V):List (κ×V) :=
 if (kvs.any λ kv=>decide (kv.1=k))=true then kvs.map (λ kv=>if kv.1=k then (kv.1,v) else kv) else kvs++[(k,v)]
def Za4 (kvs:List (κ×V)) (k:κ):List (κ×V):=kvs.filter λ kv=>decide (kv.1≠k)
theorem Zxo {k:κ}:valV ([]:List (κ×V)) k=none:=rfl
theorem Uj {p:κ×V} {r:List (κ×V)} {k:κ} (e:p.1=k):valV (p::r) k=some p.2:=by simp [valV,List.find?_cons,e]
theorem Y9 {p:κ×V} {r:List (κ×V)} {k:κ} (e:¬ p.1=k):valV (p::r) k=valV r k:=by simp [valV,List.find?_cons,e]
theorem Zbc (k:κ):∀ kvs:List (κ×V),(kvs.any λ kv=>decide (kv.1=k))=(valV kvs k).isSome
 | []=>rfl
 | p::r=>by
   rw [List.any_cons]
   by_cases e:p.1=k
   · simp only [Uj e,decide_eq_true e,Bool.true_or,Option.isSome_some]
   · rw [Y9 e,decide_eq_false e,Bool.false_or]; exact Zbc k r
theorem Zd9 (kvs:List (κ×V)) (k:κ) (v:V):(putK kvs k v).length<=kvs.length+1:=by
 unfold putK
 split
 · rw [List.length_map]; omega
 · rw [List.length_append,List.length_cons,List.length_nil]; omega
theorem Gk {kvs:List (κ×V)} {k:κ} (v:V) (h:valV kvs k=none):putK kvs k v=kvs++[(k,v)]:=by
 unfold putK
 rw [Zbc,h]
 exact if_neg (by decide)
theorem RelO.isSome_eq {o:Option V} {u:Option Value} (r:RelO o u):o.isSome=u.isSome:=by
 cases o with
 | none=>cases u with
   | none=>rfl
   | some _=>exact (show False from r).elim
 | some _=>cases u with
   | none=>exact (show False from r).elim
   | some _=>rfl
theorem KV.val {kvs:List (κ×V)} {vs:List (κ×Value)} (r:KV kvs vs) (k:κ):RelO (valV kvs k) (valueAt vs k):=by
 unfold KV at r
 induction r with
 | nil=>exact True.intro
 | @cons p q ps qs h t ih =>
   obtain ⟨h1,h2⟩:=h
   by_cases e:p.1=k
   · have e':q.1=k:=h1.symm.trans e
     have b:valueAt (q::qs) k=some q.2:=by simp [valueAt,List.find?_cons,e']
     rw [Uj e,b]; exact h2
   · have e':¬ q.1=k:=λ z=>e (h1.trans z)
     have b:valueAt (q::qs) k=valueAt qs k:=by simp [valueAt,List.find?_cons,e']
     rw [Y9 e,b]; exact ih
theorem KV.any {kvs:List (κ×V)} {vs:List (κ×Value)} (r:KV kvs vs) (k:κ):(kvs.any λ kv=>decide (kv.1=k))=vs.any λ kv=>decide (kv.1=k):=by
 unfold KV at r
 induction r with
 | nil=>rfl
 | cons h t ih=>rw [List.any_cons,List.any_cons,ih,h.1]
theorem KV.repl {kvs:List (κ×V)} {vs:List (κ×Value)} (r:KV kvs vs) (k:κ) {y:V} {u:Value} (ry:RelV y u) :
 KV (kvs.map λ kv=>if kv.1=k then (kv.1,y) else kv) (vs.map λ kv=>if kv.1=k then (kv.1,u) else kv):=by
 unfold KV at r ⊢
 induction r with
 | nil=>exact .nil
 | @cons p q ps qs h t ih =>
   rw [List.map_cons,List.map_cons]
   refine .cons ?_ ih
   obtain ⟨h1,h2⟩:=h
   by_cases e:p.1=k
   · rw [if_pos e,if_pos (h1.symm.trans e)]; exact ⟨h1,ry⟩
   · rw [if_neg e,if_neg (λ z=>e (h1.trans z))]; exact ⟨h1,h2⟩
theorem KV.put {kvs:List (κ×V)} {vs:List (κ×Value)} (r:KV kvs vs) (k:κ) {y:V} {u:Value} (ry:RelV y u):KV (putK kvs k y) (stored vs k u):=by
 unfold putK stored
 rw [r.any k]
 by_cases e:(vs.any λ kv=>decide (kv.1=k))=true
 · rw [if_pos e,if_pos e]; exact r.repl k ry
 · rw [if_neg e,if_neg e]; exact Paired.snoc r ⟨rfl,ry⟩
theorem KV.drop {kvs:List (κ×V)} {vs:List (κ×Value)} (r:KV kvs vs) (k:κ):KV (Za4 kvs k) (without vs k):=by
 unfold KV at r ⊢
 unfold Za4 without
 induction r with
 | nil=>exact .nil
 | @cons p q ps qs h t ih =>
   obtain ⟨h1,h2⟩:=h
   rw [List.filter_cons,List.filter_cons]
   by_cases e:p.1=k
   · have a:¬ decide (p.1≠k)=true:=by simp [e]
     have b:¬ decide (q.1≠k)=true:=by simp [h1.symm.trans e]
     rw [if_neg a,if_neg b]; exact ih
   · have e':¬ q.1=k:=λ z=>e (h1.trans z)
     have a:decide (p.1≠k)=true:=by simp [e]
     have b:decide (q.1≠k)=true:=by simp [e']
     rw [if_pos a,if_pos b]; exact .cons ⟨h1,h2⟩ ih
theorem KV.keys {kvs:List (κ×V)} {vs:List (κ×Value)} (r:KV kvs vs):kvs.map (·.1)=vs.map (·.1):=by
 unfold KV at r
 induction r with
 | nil=>rfl
 | cons h t ih=>rw [List.map_cons,List.map_cons,ih,h.1]
theorem KV.length {kvs:List (κ×V)} {vs:List (κ×Value)} (r:KV kvs vs):kvs.length=vs.length:=Paired.length r
theorem Zrd (kvs:List (κ×V)) (k:κ):(Za4 kvs k).length<=kvs.length:=List.length_filter_le _ _
end
theorem Zc9 {P:Program} {w:World} {k:Key} {u:Value} (r:RelV (kV k) u):(Yy P w).is k u=true:=by
 cases k with
 | inl i=>obtain ⟨t,e⟩:=(show ∃ t,u=Value.int i t from r); subst e; exact Zr9 P w i t
 | inr x=>obtain ⟨t,e⟩:=(show ∃ t,u=Value.str x t from r); subst e; exact Zr8 P w x t
theorem Znk {P:Program} {w:World}:∀ {ks:List Key} {us:List Value},Vals (ks.map kV) us->ItemsAre (Yy P w) ks us
 | [],_,r=>by rw [List.map_nil] at r; cases r; exact .nil
 | k::ks,_,r=>by
   rw [List.map_cons] at r
   cases r with
   | cons h t=>exact .cons (Zc9 h) (Znk t)
abbrev KT (H:Hp):List (List Key×V)->List (List Key×Addr×Value)->Prop:=Paired λ p q=>p.1=q.1/\H q.2.1=some (.tup (p.1.map kV))/\RelV p.2 q.2.2
theorem KT.val {H:Hp} {kvs:List (List Key×V)} {xs:List (List Key×Addr×Value)} (r:KT H kvs xs) (k:List Key):RelO (valV kvs k) ((atKey xs k).map (·.2)):=by
 induction r with
 | nil=>exact True.intro
 | @cons p q ps qs h t ih =>
   obtain ⟨h1,_,h2⟩:=h
   by_cases e:p.1=k
   · have e':q.1=k:=h1.symm.trans e
     have b:atKey (q::qs) k=some q.2:=by simp [atKey,List.find?_cons,e']
     rw [Uj e,b]; exact h2
   · have e':¬ q.1=k:=λ z=>e (h1.trans z)
     have b:atKey (q::qs) k=atKey qs k:=by simp [atKey,List.find?_cons,e']
     rw [Y9 e,b]; exact ih
theorem KT.repl {H:Hp} {kvs:List (List Key×V)} {xs:List (List Key×Addr×Value)} (r:KT H kvs xs) (k:List Key) {y:V} {u:Value} (ry:RelV y u) :
 KT H (kvs.map λ kv=>if kv.1=k then (kv.1,y) else kv) (xs.map (putAt k u)):=by
 induction r with
 | nil=>exact .nil
 | @cons p q ps qs h t ih =>
   rw [List.map_cons,List.map_cons]
   refine .cons ?_ ih
   obtain ⟨h1,h2,h3⟩:=h
   unfold putAt
   by_cases e:p.1=k
   · rw [if_pos e,if_pos (h1.symm.trans e)]; exact ⟨h1,h2,ry⟩
   · rw [if_neg e,if_neg (λ z=>e (h1.trans z))]; exact ⟨h1,h2,h3⟩
theorem KT.put {H:Hp} {kvs:List (List Key×V)} {xs:List (List Key×Addr×Value)} (r:KT H kvs xs) (k:List Key) {b:Addr} {y:V} {u:Value} (hb:H b=some (.tup (k.map kV))) (ry:RelV y u) :
 KT H (putK kvs k y) (storedH xs k b u):=by
 have e:(kvs.any λ kv=>decide (kv.1=k))=(atKey xs k).isSome:=by
  rw [Zbc,(r.val k).isSome_eq,Option.isSome_map]
 unfold putK storedH
 rw [e]
 by_cases q:(atKey xs k).isSome=true
 · rw [if_pos q,if_pos q]; exact r.repl k ry
 · rw [if_neg q,if_neg q]; exact Paired.snoc r ⟨rfl,hb,ry⟩
theorem KT.keeps {H H':Hp} {kvs:List (List Key×V)} {xs:List (List Key×Addr×Value)} (r:KT H kvs xs) (ht:∀ b ys,H b=some (.tup ys)->H' b=some (.tup ys)):KT H' kvs xs :=
 Paired.mapP r λ _ _ z=>⟨z.1,ht _ _ z.2.1,z.2.2⟩
section
variable {P:Program} {w:World} {H:Hp} {h:Heap} {a:Addr}
theorem Zy4 {u:HO} (ok:HOk P w H h) (e:Rd H a u):ObjOk P w H h a u:=e.ok ok
theorem Za5 {kvs:List (Key×V)} (ok:HOk P w H h) (e:Rd H a (.dK kvs)):kvs.length<=sizeLine/\(a == sysModules)=false/\∃ vs,KV kvs vs/\h.DictOf (Yy P w) a vs :=
 show ObjOk P w H h a (.dK kvs) from Zy4 ok e
theorem Zlb {kvs:List (Key×V)} (ok:HOk P w H h) (e:H a=some (.dK kvs)):kvs.length<=sizeLine/\(a == sysModules)=false/\∃ vs,KV kvs vs/\h.DictOf (Yy P w) a vs:=Za5 ok (.inl e)
theorem Zho {ks:List Key} (ok:HOk P w H h) (e:H a=some (.tup (ks.map kV))):(tupleKind (Yy P w)).is h ks a:=by
 obtain ⟨_,its,r,o,h1,h2,n,h3⟩:=(show ObjOk P w H h a (.tup (ks.map kV)) from ok a _ e)
 exact ⟨o,its.toArray,n,h1,h2,h3,by simpa using Znk r⟩
theorem Zib {kvs:List (List Key×V)} (ok:HOk P w H h) (e:Rd H a (.dT kvs)):kvs.length<=sizeLine/\(a == sysModules)=false /\
 ∃ xs,KT H kvs xs/\h.DictOfH (tupleKind (Yy P w)) a xs:=by
 obtain ⟨z,y,xs,r,o,es,ep,h1,h2,h3,h4,h5⟩:=(show ObjOk P w H h a (.dT kvs) from Zy4 ok e)
 refine ⟨z,y,xs,r,o,es,ep,h1,h2,h3,h4,λ x hx=>?_,h5⟩
 have all:∀ {l:List (List Key×V)} {m:List (List Key×Addr×Value)},KT H l m->∀ x∈m,(tupleKind (Yy P w)).is h x.1 x.2.1:=by
  intro l m q
  induction q with
  | nil=>intro x hx; exact nomatch hx
  | @cons p q ps qs hq t ih =>
    intro x hx
    rcases List.mem_cons.mp hx with e | hx
    · subst e
      exact Zho ok (by rw [← hq.1]; exact hq.2.1)
    · exact ih x hx
 exact all r x hx
theorem Z3v {kvs:List (List Key×V)} (ok:HOk P w H h) (e:H a=some (.dT kvs)):kvs.length<=sizeLine/\(a == sysModules)=false /\
 ∃ xs,KT H kvs xs/\h.DictOfH (tupleKind (Yy P w)) a xs:=Zib ok (.inl e)
end
def DGet (H:Hp) (a:Addr) (y:V) (r:Option V):Prop :=
 (∃ kvs k,Rd H a (.dK kvs)/\y=kV k/\r=valV kvs k)\/∃ kvs k b,Rd H a (.dT kvs)/\y=.ref b/\H b=some (.tup (k.map kV))/\r=valV kvs k
def DPut (H:Hp) (a:Addr) (y v:V) (H':Hp):Prop :=
 (∃ kvs k,H a=some (.dK kvs)/\y=kV k/\kvs.length<sizeLine/\H'=upd H a (.dK (putK kvs k v))) \/
 ∃ kvs k b,H a=some (.dT kvs)/\y=.ref b/\H b=some (.tup (k.map kV))/\kvs.length<sizeLine/\H'=upd H a (.dT (putK kvs k v))
theorem DGet.k {H:Hp} {a:Addr} {kvs:List (Key×V)} {k:Key} (e:H a=some (.dK kvs)):DGet H a (kV k) (valV kvs k):=.inl ⟨kvs,k,.inl e,rfl,rfl⟩
theorem DPut.k {H:Hp} {a:Addr} {kvs:List (Key×V)} {k:Key} {v:V} (e:H a=some (.dK kvs)) (hl:kvs.length<sizeLine):DPut H a (kV k) v (upd H a (.dK (putK kvs k v))):=.inl ⟨kvs,k,e,rfl,hl,rfl⟩
section
variable {X:Cx} {pins:List (Addr×Obj)} {σ:St} {H:Hp} {s:Shared} {a:Addr} {y v:V} {u r:Value} {o:Option V} {A:Around} {E:Value->Shared->Prop}
theorem Inv.big (I:Inv X pins σ H s):sysModules<s.heap.objs.size:=by
 have h:mainGlobals<s.heap.objs.size:=(I.mod.glob.keeps I.bk).lt
 exact Nat.lt_trans (by decide) h
theorem Zw4 {Q:Value->Shared->Prop} (hu:A.units+1<cLine) (I:Inv X pins σ H s) (g:DGet H a y (some v)) (ry:RelV y u) (h:∀ w' s',Inv X pins σ H s'->RelV v w'->Q w' s') :
 wpAny (model X.prog X.w) A (getItem (.ref a) u) Q E s:=by
 rcases g with ⟨kvs,k,e,ey,l⟩ | ⟨kvs,k,b,e,ey,eb,l⟩
 · subst ey
   obtain ⟨z,hd,vs,rel,dd⟩:=Za5 I.hok e
   obtain ⟨w',hw,rw'⟩:=RelO.some_of (v:=v) (o:=valueAt vs k) (by rw [l]; exact rel.val k)
   exact wpAny_getItem_of (Zc9 ry) dd.mapOf hw (h w' _ (I.tok _) rw')
 · subst ey
   cases (show u=Value.ref b from ry)
   obtain ⟨z,hd,xs,rel,dd⟩:=Zib I.hok e
   obtain ⟨w',hw,rw'⟩:=RelO.some_of (v:=v) (o:=(atKey xs k).map (·.2)) (by rw [l]; exact rel.val k)
   obtain ⟨p,hp,hp2⟩:=Option.map_eq_some_iff.mp hw
   refine wpAny_getItem_heap (tupleKind_room_in1 hu) (Zho I.hok eb) dd hp ?_
   rw [hp2]
   exact h w' _ (I.tok _) rw'
theorem Z4c {Q:Value->Shared->Prop} (hu:A.units+1<cLine) (I:Inv X pins σ H s) (g:DGet H a y o) (ry:RelV y u) (h:∀ s',Inv X pins σ H s'->Q (.bool o.isSome) s') :
 wpAny (model X.prog X.w) A (compareOp .In u (.ref a)) Q E s:=by
 rcases g with ⟨kvs,k,e,ey,l⟩ | ⟨kvs,k,b,e,ey,eb,l⟩
 · subst ey
   obtain ⟨z,hd,vs,rel,dd⟩:=Za5 I.hok e
   refine wpAny_in_of (Zc9 ry) hd dd.mapOf ?_
   rw [← (rel.val k).isSome_eq,← l]
   exact h _ (I.tok _)
 · subst ey
   cases (show u=Value.ref b from ry)
   obtain ⟨z,hd,xs,rel,dd⟩:=Zib I.hok e
   refine wpAny_in_heap (tupleKind_room_in1 hu) (Zho I.hok eb) hd dd ?_
   have q:=(rel.val k).isSome_eq
   rw [Option.isSome_map] at q
   rw [← q,← l]
   exact h _ (I.tok _)
theorem Z04 {Q:Value->Shared->Prop} (hu:A.units+1<cLine) (I:Inv X pins σ H s) (g:DGet H a y o) (ry:RelV y u) (h:∀ s',Inv X pins σ H s'->Q (.bool (!o.isSome)) s') :
 wpAny (model X.prog X.w) A (compareOp .NotIn u (.ref a)) Q E s:=by
 rcases g with ⟨kvs,k,e,ey,l⟩ | ⟨kvs,k,b,e,ey,eb,l⟩
 · subst ey
   obtain ⟨z,hd,vs,rel,dd⟩:=Za5 I.hok e
   refine wpAny_notIn_of (Zc9 ry) hd dd.mapOf ?_
   rw [← (rel.val k).isSome_eq,← l]
   exact h _ (I.tok _)
 · subst ey
   cases (show u=Value.ref b from ry)
   obtain ⟨z,hd,xs,rel,dd⟩:=Zib I.hok e
   refine wpAny_notIn_heap (tupleKind_room_in1 hu) (Zho I.hok eb) hd dd ?_
   have q:=(rel.val k).isSome_eq
   rw [Option.isSome_map] at q
   rw [← q,← l]
   exact h _ (I.tok _)
theorem Zez {h':Heap} {t':Nat} {ob:HO} (I:Inv X pins σ H s) (mu:Mut (H a)) (hs:Heap.SameBut a s.heap h') (he:∃ q,h'.get? a=some q) (new:ObjOk X.prog X.w (upd H a ob) h' a ob) :
 Inv X pins σ (upd H a ob) { s with heap:=h',toks:=t' } :=
 I.write (x:=a) (e:=a) mu (.inl rfl) (λ b q hb z=>(hs.2 b hb).trans z) he new
theorem Zlc {P:Program} {w:World} {H':Hp} {h':Heap} {kvs:List (Key×V)} {vs:List (Key×Value)} (z:kvs.length<=sizeLine) (hd:(a == sysModules)=false) (rel:KV kvs vs) (dd:h'.DictOf (Yy P w) a vs) :
 ObjOk P w H' h' a (.dK kvs):=⟨z,hd,vs,rel,dd⟩
theorem Zw3 {H':Hp} {Q:Unit->Shared->Prop} (hu:A.units+1<cLine) (I:Inv X pins σ H s) (g:DPut H a y v H') (ry:RelV y u) (rv:RelV v r) (h:∀ s',Inv X pins σ H' s'->Q () s') :
 wpAny (model X.prog X.w) A (setItem (.ref a) u r) Q E s:=by
 rcases g with ⟨kvs,k,e,ey,l,eH⟩ | ⟨kvs,k,b,e,ey,eb,l,eH⟩
 · subst ey eH
   obtain ⟨z,hd,vs,rel,dd⟩:=Zlb I.hok e
   have hz:vs.length<=sizeLine:=by rw [← rel.length]; exact z
   have hl:(putK kvs k v).length<=sizeLine:=by have:=Zd9 kvs k v; omega
   refine wpAny_setItem_pairs (hsz:=hz) (Zc9 ry) dd λ h' dd' hs=>h _ ?_
   have he:∃ q,h'.get? a=some q:=let ⟨q,_,_,hq,_⟩:=dd'; ⟨q,hq⟩
   exact Zez I (by rw [e]; exact True.intro) hs he (Zlc hl hd (rel.put k rv) dd')
 · subst ey eH
   cases (show u=Value.ref b from ry)
   obtain ⟨z,hd,xs,rel,dd⟩:=Z3v I.hok e
   have hz:xs.length<=sizeLine:=by rw [← Paired.length rel]; exact z
   have hl:(putK kvs k v).length<=sizeLine:=by have:=Zd9 kvs k v; omega
   refine wpAny_setItem_heap (hsz:=hz) (tupleKind_room_in1 hu) (Zho I.hok eb) dd λ h' dd' hs=>h _ ?_
   obtain ⟨q,es,ep,hq,h2,h3,h4,_,h5⟩:=dd'
   refine Zez I (by rw [e]; exact True.intro) hs ⟨q,hq⟩ ⟨hl,hd,_,(rel.put k eb rv).keeps λ c ys ec=>?_,q,es,ep,hq,h2,h3,h4,h5⟩
   rw [Z1 (Zfy ec e (λ z=>nomatch z))]
   exact ec
end
section
variable {X:Cx} {pins:List (Addr×Obj)} {σ:St} {H:Hp} {s:Shared} {a:Addr} {kvs:List (Key×V)} {k:Key} {u:Value} {A:Around} {E:Value->Shared->Prop}
theorem Z3z {Q:Unit->Shared->Prop} (I:Inv X pins σ H s) (e:H a=some (.dK kvs)) (ry:RelV (kV k) u) (l:(valV kvs k).isSome=true) (h:∀ s',Inv X pins σ (upd H a (.dK (Za4 kvs k))) s'->Q () s') :
 wpAny (model X.prog X.w) A (delItem (.ref a) u) Q E s:=by
 obtain ⟨z,hd,vs,rel,dd⟩:=Zlb I.hok e
 refine wpAny_delItem_slot dd.typeIs (by decide) PySem.F.slot_dict_delitem
  (call_meetsIn PySem.F.slot_dict_delitem dd.typeIs PySem.F.entry_dict_delitem (PySem.F.args_dict_delitem_2 _ _) (meets_dict_delitem_pairs (Yy X.prog X.w) a (Zc9 ry)) ⟨vs,dd,by rw [← rel.length]; exact z,by rw [← (rel.val k).isSome_eq]; exact l,λ h' dd' hs=>h _ ?_⟩)
 have he:∃ q,h'.get? a=some q:=let ⟨q,_,_,hq,_⟩:=dd'; ⟨q,hq⟩
 exact Zez I (by rw [e]; exact True.intro) hs he (Zlc (Nat.le_trans (Zrd kvs k) z) hd (rel.drop k) dd')
theorem Z3w {v:V} {more:List Value} {Q:Value->Shared->Prop} (I:Inv X pins σ H s) (e:H a=some (.dK kvs)) (ry:RelV (kV k) u) (l:valV kvs k=some v) (hm:more=[]\/∃ x,more=[x])
 (h:∀ w' s',Inv X pins σ (upd H a (.dK (Za4 kvs k))) s'->RelV v w'->Q w' s'):wpAny (model X.prog X.w) A (call (.builtin "dict.pop") (.ref a::u::more)) Q E s:=by
 obtain ⟨z,hd,vs,rel,dd⟩:=Zlb I.hok e
 obtain ⟨w',hw,rw'⟩:=RelO.some_of (v:=v) (o:=valueAt vs k) (by rw [← l]; exact rel.val k)
 have hp:(keyPart u).isSome=true:=by
  cases k with
  | inl i=>obtain ⟨t,q⟩:=(show ∃ t,u=Value.int i t from ry); subst q; rfl
  | inr x=>obtain ⟨t,q⟩:=(show ∃ t,u=Value.str x t from ry); subst q; rfl
 have ha:argsOk "dict.pop" ⟨.ref a::u::more,[]⟩:=by
  rcases hm with q | ⟨x,q⟩
  · subst q; exact PySem.F.args_dict_pop_2 _ _
  · subst q; exact PySem.F.args_dict_pop_3 _ _ _
 refine call_meetsIn PySem.F.slot_dict_pop dd.typeIs PySem.F.entry_dict_pop ha (meets_dict_pop_there (Yy X.prog X.w) a (Zc9 ry) more hm hp)
  ⟨vs,w',dd,by rw [← rel.length]; exact z,hw,λ h' dd' hs=>h w' _ ?_ rw'⟩
 have he:∃ q,h'.get? a=some q:=let ⟨q,_,_,hq,_⟩:=dd'; ⟨q,hq⟩
 exact Zez I (by rw [e]; exact True.intro) hs he (Zlc (Nat.le_trans (Zrd kvs k) z) hd (rel.drop k) dd')
theorem Z3x {Q:Value->Shared->Prop} (I:Inv X pins σ H s) (e:Rd H a (.dK kvs)) (h:∀ t s',Inv X pins σ H s'->Q (.int kvs.length t) s'):wpAny (model X.prog X.w) A (call (.builtin "len") [.ref a]) Q E s:=by
 obtain ⟨z,hd,vs,rel,dd⟩:=Za5 I.hok e
 refine call_len_dict hd dd (by rw [← rel.length]; rw [sizeLine_eq] at z; omega) ?_
 rw [← rel.length]
 exact h _ _ (I.tok _)
end
def NoSl (i:Expr):Prop:=∀ ov iv,subscripted i false ov iv=operate [ov,iv] (getItem ov iv)
theorem Zly {prog:Program} {w:World} {A:Around} {E:Value->Shared->Prop} {s:Shared} {env:Env} {value slice:Expr} {pos:Pos} {T id:String} {Q:Value->Shared->Prop}
 (hl:typeLookup (.type T) "__getitem__"=pure (some (.builtin id))) (hs:NoSl slice)
 (h:wpAny (model prog w) A (eval value env) (λ o s₁=>wpAny (model prog w) A (eval slice env) (λ i s₂=>s₂.TypeIs o T/\wpAny (model prog w) A (getItem o i) Q E s₂) E s₁) E s) :
 wpAny (model prog w) A (eval (.Subscript value slice pos) env) Q E s:=by
 refine Subscript_ (wpAny_mono h (λ o s₁ h₁=>wpAny_mono h₁ (λ i s₂ h₂=>?_) λ _ _ x=>x) λ _ _ x=>x)
 obtain ⟨hT,h₂⟩:=h₂
 unfold subscriptTail
 refine wpAny_bind ?_
 rw [getitemInPython_of_ne hT.not_modules]
 refine wpAny_bind (wpAny_specialOf hT hl ?_)
 have fin:wpAny (model prog w) A (subscripted slice false o i) (λ r s₃=>wpAny (model prog w) A (letTemporaryGo value o r >>= λ _=>pure r) Q E s₃) E s₂:=by
  rw [hs o i]
  exact wpAny_operating (wpAny_mono h₂ (λ r s₃ h₃=>wpAny_bind (wpAny_letTemporaryGo (wpAny_pure h₃))) λ _ _ x=>x)
 first
  | exact wpAny_pure (wpAny_bind fin)
  | exact wpAny_bind (wpAny_pure (wpAny_bind fin))
  | exact wpAny_bind fin
theorem Zsi {X:Cx} {pins:List (Addr×Obj)} {σ:St} {H:Hp} {s:Shared} {a:Addr} {y:V} {o:Option V} (I:Inv X pins σ H s) (g:DGet H a y o):s.TypeIs (.ref a) "dict":=by
 rcases g with ⟨kvs,k,e,_,_⟩ | ⟨kvs,k,b,e,_,_,_⟩
 · obtain ⟨_,_,vs,_,dd⟩:=Za5 I.hok e
   exact dd.typeIs
 · obtain ⟨_,_,xs,_,dd⟩:=Zib I.hok e
   exact dd.typeIs
def Zju (td ty:TE):TE:=λ σ H Q=>td σ H λ x H1=>ty σ H1 λ y H2=>∃ a v,x=.ref a/\DGet H2 a y (some v)/\Q v H2
def Zxt (ty td:TE):TE:=λ σ H Q=>ty σ H λ y H1=>td σ H1 λ x H2=>∃ a o,x=.ref a/\DGet H2 a y o/\Q (.bl o.isSome) H2
def Zlw (ty td:TE):TE:=λ σ H Q=>ty σ H λ y H1=>td σ H1 λ x H2=>∃ a o,x=.ref a/\DGet H2 a y o/\Q (.bl (!o.isSome)) H2
def Zaz (td ty tv:TE):TS:=λ D σ H=>tv σ H λ v H1=>td σ H1 λ x H2=>ty σ H2 λ y H3=>∃ a H4,x=.ref a/\DPut H3 a y v H4/\D.nx σ H4
section
variable {X:Cx} {o i e value:Expr} {pos pos' tpos:Pos} {td ty tv:TE}
theorem Z0d (hu:X.A.units+1<cLine) (ho:PE X o td) (hi:PE X i ty) (hs:NoSl i):PE X (.Subscript o i pos) (Zju td ty):=by
 intro pins s σ H Q I h
 refine Zly PySem.F.slot_dict_getitem.lookup hs (thn (ho pins s σ H _ I h) λ u s1 ⟨x,H1,I1,rx,q1⟩=>thn (hi pins s1 σ H1 _ I1 q1) λ iv s2 ⟨y,H2,I2,ry,a,v,ex,g,q2⟩=>?_)
 subst ex
 obtain rfl:u=Value.ref a:=rx
 exact ⟨Zsi I2 g,Zw4 hu I2 g ry λ w' s3 I3 rw'=>⟨v,H2,I3,rw',q2⟩⟩
theorem Z17 (hu:X.A.units+1<cLine) (hi:PE X i ty) (ho:PE X o td):PC X .In i o (Zxt ty td):=by
 intro pins s σ H Q I h
 refine thn (hi pins s σ H _ I h) λ iv s1 ⟨y,H1,I1,ry,q1⟩=>thn (ho pins s1 σ H1 _ I1 q1) λ u s2 ⟨x,H2,I2,rx,a,ov,ex,g,q2⟩=>?_
 subst ex
 obtain rfl:u=Value.ref a:=rx
 exact Z4c hu I2 g ry λ s3 I3=>⟨.bl ov.isSome,H2,I3,rfl,q2⟩
theorem Zvx (hu:X.A.units+1<cLine) (hi:PE X i ty) (ho:PE X o td):PC X .NotIn i o (Zlw ty td):=by
 intro pins s σ H Q I h
 refine thn (hi pins s σ H _ I h) λ iv s1 ⟨y,H1,I1,ry,q1⟩=>thn (ho pins s1 σ H1 _ I1 q1) λ u s2 ⟨x,H2,I2,rx,a,ov,ex,g,q2⟩=>?_
 subst ex
 obtain rfl:u=Value.ref a:=rx
 exact Z04 hu I2 g ry λ s3 I3=>⟨.bl (!ov.isSome),H2,I3,rfl,q2⟩
theorem Zh4 (hu:X.A.units+1<cLine) (ho:PE X o td) (hi:PE X i ty) (hv:PE X value tv) (hs:swapsWith value (some (.Subscript o i pos')) pos.line X.env=pure false) :
 PS X (.Assign [.Subscript o i pos'] value pos) (Zaz td ty tv):=by
 intro pins s σ H D I h
 refine wpAny_Assign_Subscript (thn (hv pins s σ H _ I h) λ r s1 ⟨v,H1,I1,rv,q1⟩=>thn (ho pins s1 σ H1 _ I1 q1) λ u s2 ⟨x,H2,I2,rx,q2⟩=>thn (hi pins s2 σ H2 _ I2 q2) λ iv s3 ⟨y,H3,I3,ry,a,H4,ex,g,q3⟩=>?_) hs
 subst ex
 obtain rfl:u=Value.ref a:=rx
 exact Zw3 hu I3 g ry rv λ s4 I4=>⟨σ,H4,I4,q3⟩
end
theorem Zyq {P:Program} {w:World} {H:Hp} (h:Heap) (hb:sysModules<h.objs.size):ObjOk P w H (h.push { cls:=.type "dict",data:=.dict #[] }) h.objs.size (.dK []) :=
 ⟨Nat.zero_le _,beq_eq_false_iff_ne.mpr (Ne.symm (Nat.ne_of_lt hb)),[],.nil,Heap.DictOf.new h⟩
section
variable {X:Cx} {pos:Pos}
end
def Zph:List (TE×TE)->St->Hp->(List (V×V)->Hp->Prop)->Prop
 | [],_,H,Q=>Q [] H
 | (tk,tv)::r,σ,H,Q=>tk σ H λ x H1=>tv σ H1 λ y H2=>Zph r σ H2 λ ps H3=>Q ((x,y)::ps) H3
abbrev VV:List (V×V)->List (Value×Value)->Prop:=Paired λ p q=>RelV p.1 q.1/\RelV p.2 q.2
def PPs (X:Cx) (pos:Pos) (keys:List (Option Expr)) (values:List Expr) (trs:List (TE×TE)):Prop :=
 ∀ (pins:List (Addr×Obj)) (s:Shared) (σ:St) (H:Hp) (Q:List (V×V)->Hp->Prop),Inv X pins σ H s->Zph trs σ H Q ->
   wpAny (model X.prog X.w) X.A (evalPairs (pairTrees keys values X.env pos)) (λ vs s'=>∃ ps H',Inv X pins σ H' s'/\VV ps vs/\Q ps H') X.xe s
theorem Zz7 {X:Cx} {pos:Pos}:PPs X pos [] [] []:=λ pins s σ H Q I h=>pairTrees_nil_walk ⟨[],H,I,.nil,h⟩
theorem Zqg {X:Cx} {pos:Pos} {k v:Expr} {ks:List (Option Expr)} {vs:List Expr} {tk tv:TE} {trs:List (TE×TE)} (hk:PE X k tk) (hv:PE X v tv) (hr:PPs X pos ks vs trs) :
 PPs X pos (some k::ks) (v::vs) ((tk,tv)::trs):=λ pins s σ H Q I h =>
 pairTrees_cons_walk (thn (hk pins s σ H _ I h) λ u s1 ⟨x,H1,I1,rx,q1⟩=>thn (hv pins s1 σ H1 _ I1 q1) λ w2 s2 ⟨y,H2,I2,ry,q2⟩ =>
  thn (hr pins s2 σ H2 _ I2 q2) λ ws s3 ⟨ps,H3,I3,rel,q3⟩=>⟨(x,y)::ps,H3,I3,.cons ⟨rx,ry⟩ rel,q3⟩)
def Ef (kvs more:List (Key×V)):List (Key×V):=more.foldl (λ acc kv=>putK acc kv.1 kv.2) kvs
theorem KV.merge:∀ {more:List (Key×V)} {rs:List (Key×Value)} {kvs:List (Key×V)} {vs:List (Key×Value)},KV more rs->KV kvs vs->KV (Ef kvs more) (merged vs rs):=by
 intro more rs kvs vs r
 unfold KV at r
 induction r generalizing kvs vs with
 | nil=>intro q; exact q
 | @cons p q ps qs h t ih =>
   intro r0
   have e:KV (putK kvs p.1 p.2) (stored vs q.1 q.2):=by
    have:=r0.put p.1 h.2
    rw [← h.1]; exact this
   exact ih e
theorem Zgh:∀ (more kvs:List (Key×V)),(Ef kvs more).length<=kvs.length+more.length
 | [],kvs=>by show kvs.length<=kvs.length+0; omega
 | p::r,kvs=>by
   have h1:=Zgh r (putK kvs p.1 p.2)
   have h2:=Zd9 kvs p.1 p.2
   show (Ef (putK kvs p.1 p.2) r).length<=_
   rw [List.length_cons]; omega
theorem Zli {P:Program} {w:World}:∀ {kvs:List (Key×V)} {ws:List (Value×Value)},VV (kvs.map λ kv=>(kV kv.1,kv.2)) ws->∃ rs,Carries (Yy P w) ws rs/\KV kvs rs
 | [],_,r=>by rw [List.map_nil] at r; cases r; exact ⟨[],True.intro,.nil⟩
 | p::kvs,_,r=>by
   rw [List.map_cons] at r
   cases r with
   | @cons a b as bs h t =>
     obtain ⟨rs,c,q⟩:=Zli (P:=P) (w:=w) t
     obtain ⟨b1,b2⟩:=b
     exact ⟨(p.1,b2)::rs,⟨Zc9 h.1,rfl,c⟩,.cons ⟨rfl,h.2⟩ q⟩
def Zow (trs:List (TE×TE)):TE:=λ σ H Q=>∀ p,H p=none->Zph trs σ (upd H p (.dK [])) λ ps H2=>H2 p=some (.dK [])/\∃ kvs:List (Key×V),ps=kvs.map (λ kv=>(kV kv.1,kv.2))/\kvs.length<=15/\Q (.ref p) (upd H2 p (.dK (Ef [] kvs)))
theorem Z0c {X:Cx} {pos:Pos} {keys:List (Option Expr)} {values:List Expr} {trs:List (TE×TE)} (h:PPs X pos keys values trs) (hall:keys.all (·.isSome)=true) (hl:keys.length=values.length) (h0:keys≠[])
 (h15:keys.length<=15):PE X (.Dict keys values pos) (Zow trs):=by
 intro pins s σ H Q I q
 have hn:=I.hok.fresh (Nat.le_refl s.heap.objs.size)
 have I1:=I.laid (a:=s.heap.objs.size) (o:=.dK []) (h':=s.heap.push { cls:=.type "dict",data:=.dict #[] }) (t':=s.toks) (λ _ _ q=>Heap.get?_push_of_some _ q) (Nat.le_refl _) (Zyq s.heap I.big)
 refine wpAny_Dict_walk (knd:=Yy X.prog X.w) hall hl h0 h15 (thn (h pins _ σ _ _ I1 (q _ hn)) λ ws s2 ⟨ps,H2,I2,rel,e,kvs,ep,lk,q2⟩=>?_)
 subst ep
 obtain ⟨rs,c,rk⟩:=Zli (P:=X.prog) (w:=X.w) rel
 obtain ⟨z,hd,vs0,r0,dd⟩:=Zlb I2.hok e
 cases r0
 refine ⟨rs,c,dd,λ h' dd' hs=>⟨.ref s.heap.objs.size,_,?_,rfl,q2⟩⟩
 have hz:(Ef [] kvs).length<=sizeLine:=by
  have h1:=Zgh kvs []
  rw [List.length_nil] at h1
  rw [sizeLine_eq]; omega
 have he:∃ q,h'.get? s.heap.objs.size=some q:=let ⟨q,_,_,hq,_⟩:=dd'; ⟨q,hq⟩
 exact Zez I2 (by rw [e]; exact True.intro) hs he (Zlc hz hd (rk.merge .nil) dd')
structure M1 (X:Cx) (o:Expr) (m:Str) (apos:Pos) (e:Expr) (cpos:Pos):Prop where
 base:attributeBase o m X.env (eval o X.env)=eval o X.env
 few:((backTo cpos (starEach [e] X.env)).all (λ x=>!x.1) && (backToKw cpos (keywordEach [] X.env)).all (λ x=>x.1.isSome)
  && decide (([e]:List Expr).length+([]:List Keyword).length+(if ([]:List Keyword).isEmpty then 0 else 1)<30))=true
 line:(apos.endLine == cpos.line)=true
 trees:backTo cpos (starEach [e] X.env)=[(false,eval e X.env)]
def IsD (H:Hp) (a:Addr):Prop:=(∃ kvs,Rd H a (.dK kvs))\/∃ kvs,Rd H a (.dT kvs)
theorem Zwk {X:Cx} {pins:List (Addr×Obj)} {σ:St} {H:Hp} {s:Shared} {a:Addr} (I:Inv X pins σ H s) (d:IsD H a) :
 s.TypeIs (.ref a) "dict"/\(∀ b,Value.ref a=.ref b->∃ ob,s.heap.get? b=some ob/\ob.dict=none)/\(a == sysModules)=false:=by
 rcases d with ⟨kvs,e⟩ | ⟨kvs,e⟩
 · obtain ⟨_,hd,vs,_,dd⟩:=Za5 I.hok e
   refine ⟨dd.typeIs,λ b q=>?_,hd⟩
   cases q
   obtain ⟨ob,_,_,h1,h2,_⟩:=dd
   exact ⟨ob,h1,h2.2.1⟩
 · obtain ⟨_,hd,xs,_,dd⟩:=Zib I.hok e
   refine ⟨dd.typeIs,λ b q=>?_,hd⟩
   cases q
   obtain ⟨ob,_,_,h1,h2,_⟩:=dd
   exact ⟨ob,h1,h2.2.1⟩
section
variable {X:Cx} {pins:List (Addr×Obj)} {σ:St} {H:Hp} {s:Shared} {a:Addr} {y d:V} {u r:Value} {o:Option V} {A:Around} {E:Value->Shared->Prop}
end
def Zpi (td ty:TE):TE:=λ σ H Q=>td σ H λ x H1=>∃ a,x=.ref a/\IsD H1 a/\ty σ H1 λ y H2=>∃ kvs k v,H2 a=some (.dK kvs)/\y=kV k/\valV kvs k=some v/\Q v (upd H2 a (.dK (Za4 kvs k)))
section
variable {X:Cx} {o e f:Expr} {apos cpos:Pos} {td ty tx:TE}
theorem Zx7 (ho:PE X o td) (he:PE X e ty) (m:M1 X o "pop" apos e cpos):PE X (.Call (.Attribute o "pop" apos) [e] [] cpos) (Zpi td ty):=by
 intro pins s σ H Q I h
 refine wpAny_Call_method m.base m.few m.line PySem.F.plainAttrs_dict PySem.F.slot_dict_pop PySem.F.type_dict_pop (thn (ho pins s σ H _ I h) λ u s1 ⟨x,H1,I1,rx,a,ex,d,q1⟩=>?_)
 subst ex
 obtain rfl:u=Value.ref a:=rx
 obtain ⟨t1,t2,_⟩:=Zwk I1 d
 refine ⟨t1,t2,?_⟩
 rw [m.trees]
 refine Calls.callWith_builtin rfl (Calls.evalArgs_plain (Calls.spliced_cons (thn (he pins s1 σ H1 _ I1 q1) λ iv s2 ⟨y,H2,I2,ry,kvs,k,v,ea,ey,l,q2⟩=>Calls.spliced_nil ?_)))
 subst ey
 exact Z3w I2 ea ry l (.inl rfl) λ w' s3 I3 rw'=>⟨v,_,I3,rw',q2⟩
end
section
variable {X:Cx} {pins:List (Addr×Obj)} {σ:St} {H:Hp} {s:Shared} {a:Addr} {kvs:List (Key×V)} {A:Around} {E:Value->Shared->Prop}
end
section
variable {X:Cx} {pins:List (Addr×Obj)} {σ:St} {H:Hp} {s:Shared} {a:Addr} {y:V} {u:Value} {A:Around} {E:Value->Shared->Prop}
end
end L2
namespace L2
open PySem PySem.Spec PyProof.Rows
section
variable {X:Cx}
end
end L2
namespace L2
open PySem PySem.Spec PyProof.Rows
end L2
namespace L2
open PySem PySem.Spec PyProof.Rows
section
variable {X:Cx}
end
end L2
namespace LB
open PySem L2
abbrev Ch:=List (Nat×List Nat)
def inK (C:Ch) (o:Nat):Bool:=C.any λ c=>c.1 == o
def chOf:Ch->Nat->List Nat
 | [],_=>[]
 | c::r,o=>if c.1=o then c.2 else chOf r o
def Z3c (last k:Nat) (m:Int) (s:Ch×List Nat):Ch×List Nat:=if m≠0/\inK s.1 k=false then (s.1++[(k,chOf s.1 last++[k])],s.2++[k]) else s
def rowF (last:Nat):List Int->Nat->Ch×List Nat->Ch×List Nat
 | [],_,s=>s
 | m::r,k,s=>rowF last r (k+1) (Z3c last k m s)
theorem hu1 {u c:Nat} (h:u+64<c):u+1<c:=by omega
theorem Z3t {X:Cx} {o:Expr} {m:Str} {apos:Pos} {e:Expr} {cpos:Pos} (hb:attributeBase o m X.env (eval o X.env)=eval o X.env) (he:Yp e=false) (hl:(apos.endLine == cpos.line)=true):M1 X o m apos e cpos:=⟨hb,Zpl he,hl,by rw [Yq he]; rfl⟩
theorem Zo6 {t:TE} {σ:St} {H:Hp} {Q:Bool->Hp->Prop} (h:t σ H λ x H1=>∃ c,x=.bl c/\Q c H1):tB t σ H Q:=h
theorem Zxn {ty td:TE} {σ:St} {H:Hp} {Q:VK} (h:ty σ H λ y H1=>td σ H1 λ x H2=>∃ a o,x=.ref a/\DGet H2 a y o/\Q (.bl (!o.isSome)) H2):Zlw ty td σ H Q:=h
theorem Z3a {ty td:TE} {σ:St} {H:Hp} {Q:VK} (h:ty σ H λ y H1=>td σ H1 λ x H2=>∃ a o,x=.ref a/\DGet H2 a y o/\Q (.bl o.isSome) H2):Zxt ty td σ H Q:=h
theorem Z1p {ty td:TE} {σ:St} {H:Hp} {Q:VK} (h:td σ H λ x H1=>ty σ H1 λ y H2=>∃ a v,x=.ref a/\DGet H2 a y (some v)/\Q v H2):Zju td ty σ H Q:=h
theorem Zjr {ty td tv:TE} {D:Ends} {σ:St} {H:Hp} (h:tv σ H λ v H1=>td σ H1 λ x H2=>ty σ H2 λ y H3=>∃ a H4,x=.ref a/\DPut H3 a y v H4/\D.nx σ H4):Zaz td ty tv D σ H:=h
end LB
namespace LB
open PySem L2
end LB
namespace LB
open PySem L2
end LB
namespace LB
open PySem L2
end LB
namespace LB
open PySem L2
end LB
namespace PySem
open Sem (wp)
open AutoSeq1 (wpAny_loadPart')
section
variable {prog:Program} {w:World} {A:Around} {E:Value->Shared->Prop} {s:Shared}
end
end PySem
namespace L2
open PySem PySem.Spec PyProof.Rows
section
variable {X:Cx}
end
end L2
namespace L2
open PySem PySem.Spec PySem.W PyProof.Rows
structure Own (K:Fq) (mg:Str->Option Value) (x:Str) (C:Addr):Prop where
 bound:mg x=some (.ref C)
 cl:Cls K C
 mks:PySem.W.makesIn K C=true
 kp:PySem.W.keepIn K (.ref C)=true
 ha:PySem.W.findIn K (.ref C) "__class__"=some (some (.builtin "object.__class__"))
 hn:PySem.W.specialIn K (.builtin "object.__class__") "__get__"=some (some (.builtin "getset_descriptor.__get__"))
 htk:PySem.W.takesIn K (.builtin "object.__class__")=some true
 hm:PySem.W.mroIn K C (.type "object")=some true
def DfM (K:Fq) (C:Addr) (m qual:Str) (st:Stmt):Prop:=∃ f fd,Fun K m qual st f fd/\Meth K C m f
def FnM (P:Program) (w:World) (K:Fq) (mg:Str->Option Value) (base:Heap) (CX:CXT) (C:Addr) (m:Str) (k:Nat) (ps:List Str) (sp:Sp):Prop :=
 ∃ f fd,FnOk P w K mg base CX k f fd ps sp/\Meth K C m f/\Binds K fd ps []
section
variable {K:Fq} {mg:Str->Option Value} {h:Heap} {x y m qual fl:Str} {C D f:Addr}
theorem Zlh (X:K.In h) (G:h.Ns mainGlobals mg) (aC:PySem.W.nsIn K mainGlobals x=some (some (.ref C))):clsA mg x=C:=by unfold clsA; rw [PySem.W.mg_of X G aC]
theorem Zvy (X:K.In h) (G:h.Ns mainGlobals mg) (aC:PySem.W.nsIn K mainGlobals x=some (some (.ref C))) (pg:PySem.W.plainGet K C Str.empty=true) (hd:PySem.W.hasDictIn K C=true) (po:PySem.W.plainOver K C=true)
 (sa:PySem.W.findIn K (.ref C) "__setattr__"=some (some (.builtin "object.__setattr__"))) (mk:PySem.W.makesIn K C=true) (kc:PySem.W.keepIn K (.ref C)=true)
 (ha:PySem.W.findIn K (.ref C) "__class__"=some (some (.builtin "object.__class__"))) (hn:PySem.W.specialIn K (.builtin "object.__class__") "__get__"=some (some (.builtin "getset_descriptor.__get__")))
 (htk:PySem.W.takesIn K (.builtin "object.__class__")=some true) (hm:PySem.W.mroIn K C (.type "object")=some true):Own K mg x (clsA mg x):=by
 have e:=PySem.W.mg_of X G aC
 rw [Zlh X G aC]
 exact ⟨e,⟨pg,hd,po,sa⟩,mk,kc,ha,hn,htk,hm⟩
theorem Js {st:Stmt} {oc:Value} {od an:Option Addr} {osl:Array (Option Value)} {kV doc pm cdv ct:Value} (X:K.In h) (G:h.Ns mainGlobals mg) (aC:PySem.W.nsIn K mainGlobals x=some (some (.ref C)))
 (a:PySem.W.findIn K (.ref C) m=some (some (.ref f))) (i:PySem.W.isFn K (.ref f)=true)
 (l:K.lookup f=some ⟨oc,od,.func (PySem.W.fnOf m qual (Qy st) (Xw st) (Zq st) .none kV doc pm an cdv ct),osl⟩)
 (c:PySem.W.codeIn K cdv qual=true) (k:PySem.W.keepIn K (.ref f)=true):DfM K (clsA mg x) m qual st:=by
 rw [Zlh X G aC]
 exact ⟨f,_,Zwr l c k,a,i,k⟩
theorem Zsw (X:K.In h) (G:h.Ns mainGlobals mg) (aC:PySem.W.nsIn K mainGlobals x=some (some (.ref C))) (n:PySem.W.findIn K (.ref C) fl=some none):NoAttr K (clsA mg x) fl:=by
 rw [Zlh X G aC]; exact n
variable {P:Program} {w:World} {base:Heap}
theorem DfM.to {CX:CXT} {st:Stmt} {ps:List Str} {k:Nat} {sp:Sp} (D:DfM K C m qual st) (h:∀ {f:Addr} {fd:FuncData},Fun K m qual st f fd->FnOk P w K mg base CX k f fd ps sp)
 (hb:∀ (kV doc pm:Value) (an:Option Addr) (cdv ct:Value) (us:List Value),us.length=ps.length->bindArgs (PySem.W.fnOf m qual (Qy st) (Xw st) (Zq st) .none kV doc pm an cdv ct) ⟨us,[]⟩=pure (ps.zip us)):FnM P w K mg base CX C m k ps sp:=by
 obtain ⟨f,fd,F,hm⟩:=D
 exact ⟨f,fd,h F,hm,F.binds hb⟩
end
section
variable {X:Cx} {CX:CXT} {k:Nat} {C:Addr} {ps:List Str} {sp:Sp} {E:XK} {x m:Str} {p pos apos cpos:Pos} {e o:Expr} {es:List Expr} {ta to:TE} {t:TA}
theorem Jr {pl:Sem Bool} (c:Own X.K X.mg x C) (G:FnM X.prog X.w X.K X.mg X.base CX C m k ps sp) (hr:Room k X.A) (hx:Passes CX X E) (he:PE X o ta)
 (ht:eval (.Call (.Attribute o m apos) [] [] pos) X.env=(do
  let ov ← eval o X.env
  standAt apos.atName
  let (f,first) ← holding [ov] (getMethod ov m pl)
  callWith pos f first (backTo pos (starEach [] X.env)) (backToKw pos (keywordEach [] X.env))):=by rfl) :
 PE X (.Call (.Attribute o m apos) [] [] pos) (Yw C m sp [] E ta Zg):=by
 obtain ⟨f,fd,F,hm,hb⟩:=G
 exact Zqi (pl:=pl) he c.cl hm F hr hb .nil hx ht
theorem Z2t {a b:Expr} {name:Str} {T id:String} {r:V->List V->Hp->VK->Prop} (pa:PlainAttrs T) (slot:Slot T name id) (hty:typeOf (.builtin id)=pure (.type "method_descriptor")) (hm:MtR X id r) (ho:PE X o to) (ha:PB X [a,b] t)
 (he:Yp a=false:=by rfl) (hf:Yp b=false:=by rfl) (hbase:attributeBase o name X.env (eval o X.env)=eval o X.env:=by rfl) (hline:(apos.endLine == cpos.line)=true:=by rfl):PE X (.Call (.Attribute o name apos) [a,b] [] cpos) (tBM X.K T r to t) :=
 Zy6 pa slot hty hm ho ha.ok hbase (by rw [Yq he,Yq hf]; rfl) hline (Yq he) (by rw [Yq hf]; rfl)
end
theorem Zhl {M:Model} {A:Around} {E:Value->Shared->Prop} {K:Fq} {s:Shared} {e C D:Addr} {oe:Obj} {b:Bool} {Q:Bool->Shared->Prop} (X:K.In s.heap)
 (qC:PySem.W.excIn K C bmV "ValueError.__new__"=true) (qD:PySem.W.excIn K D bmV "ValueError.__new__"=true) (he:s.heap.get? e=some oe) (hcls:oe.cls=.ref C) (hs:PySem.W.mroIn K C (.ref D)=some b)
 (hq:Q b s):wpAny M A (excMatches (.ref e) (.ref D)) Q E s:=by
 obtain ⟨h,g,d,t,os⟩:=s
 obtain ⟨bm,N,nm,q,bs,hdct,sn,sub,ab,col,dd,k0,k1,k2,k3,k5,mN,hC,hN,hni,TL,cd,hcd,hm⟩:=Zew X qC
 obtain ⟨bm',N',nm',q',bs',hdct',sn',sub',ab',col',dd',j0,j1,j2,j3,j5,mN',hD,hN',hni',TL',cd',hcd',hm'⟩:=Zew X qD
 have hcB:(Value.ref D::bm').contains (.type "BaseException")=true:=by rw [List.contains_cons,TL'.hasType PySem.F.excBase_ValueError.hasBase,Bool.or_true]
 have hcC:(Value.ref C::bm).contains (.ref D)=b:=by
  unfold PySem.W.mroIn at hs
  rw [hcd] at hs
  dsimp only [Option.bind] at hs
  rw [hm] at hs
  exact Option.some.inj hs
 have f:=tc_notTuple
 unfold excMatches
 cases b
 all_goals
  repeat (first | (with_reducible refine wpAny_loadPart_at he ?_; rw [hcls]) | with_reducible refine wpAny_loadPart_at hD ?_ | (with_reducible refine wpAny_isSubtype_exc hD ?_; rw [hcB]) | (with_reducible refine wpAny_isSubtype_exc hC ?_; rw [hcC]) | wp_step)
  exact hq
section
variable {X:Cx} {k:Nat} {g x x2 n:Str} {ps:List Str} {sp:Sp} {p np np2 cpos epos hpos hpos2 pos:Pos} {e:Expr} {es:List Expr} {t:TA} {ts ts2:TS} {D D2:Addr} {b₀ b₂:Stmt} {suite suite2:List Stmt} {i:Nat}
end
section
variable {X:Cx}
end
section
variable {K:Fq} {σ:St} {H:Hp} {Q:VK} {D:Ends} {te ta tb:TE} {t:TA} {C p:Addr} {sp:Sp} {E:XK} {m f:Str}
theorem Zy3 (h:te σ H λ x H1=>∃ a C dx fs v,x=.ref a/\H1 a=some (.ins C dx fs)/\Cls K C/\NoAttr K C f/\fs.lookup f=some v/\Q v H1):Kg K te f σ H Q:=h
theorem Zu0 {tv:TE} (h:tv σ H λ y H1=>ta σ H1 λ x H2=>∃ a C dx fs,x=.ref a/\H2 a=some (.ins C dx fs)/\Cls K C/\NoAttr K C f/\fs.length<1000/\D.nx σ (upd H2 a (.ins C dx (putF f y fs)))):sFld K ta tv f D σ H:=h
theorem Zu3 (h:te σ H λ x H1=>∃ a dx fs,x=.ref a/\H1 a=some (.ins C dx fs)/\fs.lookup m=none/\t σ H1 λ vs H2=>sp (x::(vs++[])) H2 Q E):Yw C m sp [] E te t σ H Q:=h
theorem Zu4 (h:t σ H λ vs H1=>∀ x dx,H1 x=none->H1 dx=none->dx≠x->sp (.ref x::(vs++[])) (upd (upd H1 dx (.own x)) x (.ins C dx [])) (λ v H2=>v=.non/\Q (.ref x) H2) E):Zfd C sp [] E t σ H Q:=h
end
end L2
namespace LB
open PySem L2
theorem Zsj {l:List (Option Nat)} {te:TE} {tc:TT} {σ σr:St} {H1:Hp} {Q:Hp->Prop} {n:Nat} (D:Addr) (f:Nat->Bool) (g:Nat->V) (hn:n<=1000) (hD:H1 D=none) (hini:∃ r0,X5 l σ=r0::σr)
 (ht:∀ i H (R:Bool->Hp->Prop),i<n->Same H1 H->R (f i) H->tc (some (.int (i:Nat))::σr) H R)
 (hs:∀ i H (R:VK),i<n->f i=true->Same H1 H->R (g i) H->te (some (.int (i:Nat))::σr) H R)
 (hd:∀ H,Same H1 H->H D=some (.lst (((List.range n).filter f).map g))->Q H) :
 ∃ W:CompW,(∃ m,W 0 m [] (X5 l σ) (upd H1 D (.lst [])))/\Jt (Itr 0 n) (Zt 0) tc te D W Q:=by
 obtain ⟨r0,hini⟩:=hini
 refine Zle D (λ i ys σ2 H=>ys=((List.range i).filter f).map g/\Same H1 H/\∃ r0,σ2=r0::σr) hn (λ i ys σ H h=>?_) ⟨rfl,Same.laid hD,r0,hini⟩ ?_ ?_
 · rw [h.1,List.length_map]
   exact Nat.le_trans (List.length_filter_le ..) (Nat.le_of_eq List.length_range)
 · rintro i ys σ2 H hi ⟨rfl,hs1,r1,rfl⟩ hH
   refine Zw ?_
   show tc (some (.int (0+(i:Nat)))::σr) H _
   rw [Int.zero_add]
   have hr:(List.range (i+1)).filter f=(List.range i).filter f++[i].filter f:=by rw [List.range_succ,List.filter_append]
   refine ht i H _ hi hs1 (iteB (λ hf=>?_) λ hf=>?_)
   · refine hs i H _ hi hf hs1 ⟨hH,?_,hs1.put hD,_,rfl⟩
     rw [hr,List.map_append,List.filter_cons_of_pos hf]; rfl
   · refine ⟨hH,?_,hs1,_,rfl⟩
     rw [hr,List.map_append,List.filter_cons_of_neg (by rw [hf]; decide)]; simp
 · rintro ys σ2 H ⟨rfl,hs1,_⟩ hH
   exact hd H hs1 hH
theorem Zrz {H:Hp} {w:V} {ds:List PyData} (h:Rep H w (.tuple ds)):∃ p xs,w=.ref p/\H p=some (.tup xs)/\Reps H xs ds:=by
 unfold Rep at h; exact h
section
variable {K:Fq} {σ:St} {H:Hp} {Q:VK}
end
theorem Z1l {t u:TS} {D:Ends} {σ:St} {H:Hp} (I:St->Hp->Prop) (h:∀ R:St->Hp->Prop,(∀ σ' H',I σ' H'->R σ' H')->t { D with nx:=R } σ H) (k:∀ σ' H',I σ' H'->u D σ' H'):Zv t u D σ H:=h _ k
theorem Zhx {K:Fq} {H:Hp} {Q:VK} {x y:Str} (h:Q (.bl (decide (x=y))) H):rEqU K (.str x) (.str y) H Q:=.inl ⟨rfl,by rw [show decide (V.str x=V.str y)=decide (x=y) by simp]; exact h⟩
theorem Zhw {K:Fq} {H:Hp} {Q:VK} {x y:Str} (h:Q (.bl (!decide (x=y))) H):rNeU K (.str x) (.str y) H Q:=.inl ⟨rfl,by rw [show decide (V.str x=V.str y)=decide (x=y) by simp]; exact h⟩
theorem Zre:∀ {ps as:List Int},as.length=ps.length->(∀ x∈ps,1<=x/\x<=1000000000)->(∀ x∈as,0<=x/\x<=1000000000000000000)->0<=dotF ps as/\dotF ps as<=(ps.length:Int)*1000000000000000000000000000
 | [],[],_,_,_=>by simp [dotF]
 | [],a::as,h,_,_=>by simp at h
 | p::ps,[],h,_,_=>by simp at h
 | p::ps,a::as,h,hp,ha=>by
   have ih:=Zre (ps:=ps) (as:=as) (by simpa using h) (λ x hx=>hp x (by simp [hx])) λ x hx=>ha x (by simp [hx])
   have h1:=hp p (by simp)
   have h2:=ha a (by simp)
   have e:dotF (p::ps) (a::as)=p*a+dotF ps as:=rfl
   have z1:0<=p*a:=Int.mul_nonneg (by omega) h2.1
   have z2:p*a<=1000000000*1000000000000000000:=Int.le_trans (Int.mul_le_mul_of_nonneg_right h1.2 h2.1) (Int.mul_le_mul_of_nonneg_left h2.2 (by decide))
   rw [e,List.length_cons]
   omega
theorem Zs3:∀ {ps as:List Int},as.length=ps.length->(∀ x∈ps,1<=x/\x<=1000000000)->(∀ x∈as,0<=x/\x<=1000000000000000000)->(∃ x∈as,0<x)->0<dotF ps as
 | [],[],_,_,_,⟨x,hx,_⟩=>by simp at hx
 | [],a::as,h,_,_,_=>by simp at h
 | p::ps,[],h,_,_,_=>by simp at h
 | p::ps,a::as,h,hp,ha,⟨x,hx,x0⟩=>by
   have h1:=hp p (by simp)
   have h2:=ha a (by simp)
   have bd:=Zre (ps:=ps) (as:=as) (by simpa using h) (λ x hx=>hp x (by simp [hx])) λ x hx=>ha x (by simp [hx])
   have e:dotF (p::ps) (a::as)=p*a+dotF ps as:=rfl
   rw [e]
   rcases List.mem_cons.mp hx with z | z
   · subst z
     have:0<p*x:=Int.mul_pos (by omega) x0
     omega
   · have:=Zs3 (ps:=ps) (as:=as) (by simpa using h) (λ x hx=>hp x (by simp [hx])) (λ x hx=>ha x (by simp [hx])) ⟨x,z,x0⟩
     have:0<=p*a:=Int.mul_nonneg (by omega) h2.1
     omega
theorem Zs8 {m n:Nat} {B:List (List Int×List Int)} (g:GoodBook m n B) {i j:Nat} (hi:i<B.length) (hj:j<B.length):0<Jd B i j/\Jd B i j<=6000000000000000000000000000:=by
 have gi:=Gz g.dy hi
 have gj:=Gz g.dy hj
 have l:(B.getD j ([],[])).2.length=(B.getD i ([],[])).1.length:=by rw [gi.l1,gj.l2]
 have h1:=Zre l gi.pr gj.am
 have h2:=Zs3 l gi.pr gj.am gj.ps
 have n6:=g.n6
 rw [gi.l1] at h1
 unfold Jd
 omega
end LB
namespace L2
end L2
namespace L2
open PySem PySem.Spec PyProof.Rows
section
variable {X:Cx}
theorem Zve {ts:List Str}:∀ {us:List Value},Vals (ts.map V.str) us->∃ l:List (Str×Tok),us=strValues l/\l.map (·.1)=ts:=by
 induction ts with
 | nil=>intro us h; cases h; exact ⟨[],rfl,rfl⟩
 | cons t ts ih =>
   intro us h
   cases h with
   | cons r rr =>
     obtain ⟨k,rfl⟩:=r
     obtain ⟨l,rfl,e⟩:=ih rr
     exact ⟨(t,k)::l,rfl,by rw [List.map_cons,e]⟩
theorem Zgq:∀ l:List (Str×Tok),Vals ((l.map (·.1)).map V.str) (strValues l)
 | []=>.nil
 | (x,t)::l=>.cons ⟨t,rfl⟩ (Zgq l)
def Zkg:V->List V->Hp->VK->Prop:=λ x xs H Q=>∃ z c,x=.str z/\xs=[.str ⟨#[c]⟩]/\z.length<=1000/\∀ q,H q=none->Q (.ref q) (upd H q (.lst ((Txt.split z ⟨#[c]⟩).map V.str)))
theorem Zna (z:Str) (c:Nat):(Txt.split z ⟨#[c]⟩).length<=z.length+2:=by
 unfold Txt.split
 split
 · show 1<=_; omega
 · split
   · show 1<=_; omega
   · rw [length_partsBetween]
     have:=StrLaws.occ_length_le z ⟨#[c]⟩ 0 z.length (z.length+1)
     omega
theorem Zi9:MtR X "str.split" Zkg:=by
 intro pins s σ H x xs v us Q I rx rv h
 obtain ⟨z,c,rfl,rfl,hz,q⟩:=h
 obtain ⟨t,rfl⟩:=rx
 obtain ⟨u,rfl,⟨t2,rfl⟩⟩:=rv.one
 have hlay:∀ (l:List (Str×Tok)) (k:Nat),l.map (·.1)=Txt.split z ⟨#[c]⟩->EP X pins σ Q (.ref s.heap.objs.size) { s with heap:=s.heap.push { cls:=.type "list",data:=.seq (strValues l).toArray },toks:=k }:=λ l k e=>by
  have sz:=Zna z c
  have old:∀ b o,s.heap.get? b=some o->(s.heap.push { cls:=.type "list",data:=.seq (strValues l).toArray }).get? b=some o:=λ b o e=>Heap.get?_push_of_some _ e
  refine ⟨.ref _,_,I.laid (t':=k) old (Nat.le_refl _) (show ObjOk X.prog X.w _ (s.heap.push { cls:=.type "list",data:=.seq (strValues l).toArray }) _ (.lst ((Txt.split z ⟨#[c]⟩).map V.str)) from ⟨?_,strValues l,0,?_,Heap.get?_push_size _ rfl⟩),rfl,q _ (I.hok.fresh (Nat.le_refl _))⟩
  · rw [List.length_map]; exact Nat.le_trans sz (Nat.le_trans (show z.length+2<=1002 by omega) (by decide))
  · rw [← e]; exact Zgq l
 have hy:((⟨#[c]⟩:Str).length == 0)=false:=rfl
 cases h1:(decide (z.length<(⟨#[c]⟩:Str).length) || decide (Builtin.Str.strKind z<Builtin.Str.strKind ⟨#[c]⟩))
 · cases hf:(Builtin.Str.occurrences z ⟨#[c]⟩ 0 z.length (z.length+1)).isEmpty
   · refine call_meets F.slot_str_split (typeIs_str _ _ _) F.entry_str_split (F.args_str_split_2 _ _) (meets_str_split_sep z ⟨#[c]⟩ t t2 h1 hy hf (Nat.le_trans hz (by decide)) ?_) ?_
     · have:=StrLaws.occ_length_le z ⟨#[c]⟩ 0 z.length (z.length+1)
       rw [length_partsBetween]
       exact Nat.le_trans (show _<=1002 by omega) (by decide)
     · show wants (EP X pins σ Q) X.xe _ { s with toks:=_,heap:=s.heap.push { cls:=.type "list",data:=.seq (strsFrom s.toks (Builtin.Str.partsBetween z (Builtin.Str.occurrences z ⟨#[c]⟩ 0 z.length (z.length+1)) (⟨#[c]⟩:Str).length)).toArray } }
       rw [strsFrom_eq]
       exact hlay _ _ ((numbered_texts _ _).trans ((if_neg (ne_true_of_eq_false h1)).trans (if_neg (ne_true_of_eq_false hf))).symm)
   · refine call_meets F.slot_str_split (typeIs_str _ _ _) F.entry_str_split (F.args_str_split_2 _ _) (meets_str_split_not_found z ⟨#[c]⟩ t t2 h1 hy hf) ?_
     exact hlay [(z,t)] _ ((if_neg (ne_true_of_eq_false h1)).trans (if_pos hf)).symm
 · refine call_meets F.slot_str_split (typeIs_str _ _ _) F.entry_str_split (F.args_str_split_2 _ _) (meets_str_split_cannot_occur z ⟨#[c]⟩ t t2 h1) ?_
   exact hlay [(z,t)] _ (if_pos h1).symm
def Zfq (K:Fq):V->List V->Hp->VK->Prop:=λ x xs H Q=>∃ z p ts,x=.str z/\xs=[.ref p]/\SqL K H p (ts.map V.str)/\JoinOk z ts=true/\Q (.str (Txt.join z ts)) H
theorem Zer:MtR X "str.join" (Zfq X.K):=by
 intro pins s σ H x xs v us Q I rx rv h
 obtain ⟨z,p,ts,rfl,rfl,hq,ok,q⟩:=h
 obtain ⟨t,rfl⟩:=rx
 obtain ⟨u,rfl,ru⟩:=rv.one
 cases ru
 obtain ⟨its,rs,pl,hz⟩:=I.list hq
 obtain ⟨l,rfl,e⟩:=Zve rs
 have ok':=ok
 unfold JoinOk at ok'
 rw [Bool.not_eq_true'] at ok'
 rw [← e] at ok' q
 refine call_meets F.slot_str_join (typeIs_str _ _ _) F.entry_str_join (F.args_str_join_2 _ _) (meets_str_join_list z t p l ok') ⟨pl.isList,post_join l ⟨joinFit_length ok',λ t' k=>⟨.str _,H,I.tok k,⟨t',rfl⟩,q⟩⟩⟩
def Zmj:V->List V->Hp->VK->Prop:=λ x xs H Q=>∃ z y,x=.str z/\xs=[.str y]/\Q (.bl (Txt.startswith z y)) H
theorem Zni:MtR X "str.startswith" Zmj:=by
 intro pins s σ H x xs v us Q I rx rv h
 obtain ⟨z,y,rfl,rfl,q⟩:=h
 obtain ⟨t,rfl⟩:=rx
 obtain ⟨u,rfl,⟨t2,rfl⟩⟩:=rv.one
 exact call_gives F.slot_str_startswith (typeIs_str _ _ _) F.entry_str_startswith (F.args_str_startswith_2 _ _) (gives_str_startswith z y t t2) ⟨.bl _,H,I,rfl,q⟩
def Zt3:List V->Hp->VK->Prop:=λ xs H Q=>∃ z n,xs=[.str z]/\PySem.intText? z=some n/\z.length<=640/\Q (.int n) H
theorem Znn:CallR X (.type "int") Zt3:=by
 intro pins s σ H xs us Q I r h
 obtain ⟨z,n,rfl,hn,hl,q⟩:=h
 obtain ⟨u,rfl,t,rfl⟩:=U4 r
 exact PySem.W.KIN.call_text hn hl ⟨.int n,H,I.tok _,⟨_,rfl⟩,q⟩
end
def Its (x:Str):It:={ go:=λ i _=>i<x.cps.size,yld:=λ i H v H'=>H'=H/\∃ c,x.cps[i]?=some c/\v=.str ⟨#[c]⟩,stop:=λ i _=>x.cps.size<=i }
theorem Zxr {P:Program} {w:World} {K:Fq} {tg:Expr} (x:Str) (t:Tok) (it:Addr):Turn P w K tg (Its x) [it] it (λ i h=>h.IsStrIter it "str_ascii_iterator" x t i) where
 mem:=by simp
 obj:=λ i h st b hb=>by
  have e:b=it:=by simpa using hb
  subst e
  obtain ⟨o,e,c,d⟩:=st
  exact ⟨o,e,λ v z=>by rw [d] at z; cases z⟩
 keep:=λ i h h' st k=>let ⟨o,ho,r⟩:=st; ⟨o,k it (by simp) o ho,r⟩
 item:=by
  intro X hP hw hK hc i pins s σ H E I hf st hg
  subst hP hw hK
  have hg':i<x.cps.size:=hg
  obtain ⟨f0,f1,f2,f3,f4,f5⟩:=hf it (by simp)
  refine wpAny_pyNext_ascii_item st (c:=x.cps[i]) (by simp [hg']) λ h' st' sb=>?_
  have I1:Inv X pins σ H { s with heap:=h',toks:=s.toks+1 }:=I.turned (t':=s.toks+1) (λ b o hb e=>(sb.2 b hb).trans e) f0 f1 f3 f4 f5
  obtain ⟨o,e,c,d⟩:=id st'
  exact ⟨_,rfl,Zk0 (s:={ s with heap:=h',toks:=s.toks+1 }) e c d (by decide) ⟨.str ⟨#[x.cps[i]]⟩,H,I1,⟨_,rfl⟩,⟨rfl,_,by simp [hg'],rfl⟩,st',λ b hb=>(hf b hb).1⟩⟩
 done:=by
  intro X hP hw hK hc i pins s σ H E I hf st hg
  subst hP hw hK
  have hg':x.cps.size<=i:=hg
  obtain ⟨f0,f1,f2,f3,f4,f5⟩:=hf it (by simp)
  exact wpAny_pyNext_ascii_end (I.ok.hd hc) st (by simp [hg']) λ h' eb=>⟨rfl,I.turned (t':=s.toks) (λ b o hb e=>eb b o hb e) f0 f1 f3 f4 f5⟩
 self:=λ _ _ _ _ _ st h=>wpAny_pyIter_striter_ascii st h
def iStr (te:TE):TI:=λ σ H R=>te σ H λ v H1=>∃ x,v=.str x/\x.cps.all (· < 128)=true/\R (Its x) H1
theorem Zvs {X:Cx} {tg l:Expr} {tl:TE} (hl:PE X l tl):PI X tg l (iStr tl):=by
 intro pins s σ H R I h
 refine thn (hl pins s σ H _ I h) λ v s1 ⟨y,H1,I1,r1,q1⟩=>?_
 obtain ⟨x,rfl,ha,q⟩:=q1
 obtain ⟨t,rfl⟩:=r1
 refine wpAny_pyIter_ascii ha ?_
 refine ⟨s1.heap.objs.size,[s1.heap.objs.size],_,_,H1,rfl,I1.kept (t':=s1.toks) λ b o e=>Heap.get?_push_of_some _ e,Zxr x t _,⟨_,Heap.get?_push_size _ rfl,rfl,rfl⟩,λ b hb=>?_,q⟩
 have e:b=s1.heap.objs.size:=by simpa using hb
 subst e
 exact I1.fpOk (Nat.le_refl _) (I1.hok.fresh (Nat.le_refl _))
theorem Zwh (x:Str) (H:Hp) (i:Nat):(∀ v,(x.cps.toList.map λ c=>V.str ⟨#[c]⟩)[i]?=some v->(Its x).go i H/\∀ y H',(Its x).yld i H y H'->H'=H/\y=v)/\((x.cps.toList.map λ c=>V.str ⟨#[c]⟩).length<=i->(Its x).stop i H):=by
 refine ⟨λ v hv=>?_,λ h=>by rw [List.length_map,Array.length_toList] at h; exact h⟩
 rw [List.getElem?_map,Array.getElem?_toList] at hv
 obtain ⟨c,hc,rfl⟩:=Option.map_eq_some_iff.mp hv
 refine ⟨(Array.getElem?_eq_some_iff.mp hc).1,λ y H' h=>⟨h.1,?_⟩⟩
 obtain ⟨d,hd,e⟩:=h.2
 rw [hc] at hd
 cases hd
 exact e
theorem Zu5 {te:TE} {σ:St} {H:Hp} {R:It->Hp->Prop} (h:te σ H λ v H1=>∃ x,v=.str x/\x.cps.all (· < 128)=true/\R (Its x) H1):iStr te σ H R:=h
section
variable {X:Cx}
def Yn:R2:=λ x y H Q=>∃ i j,x=.str i/\y=.str j/\i.length+j.length<=sizeLine/\Q (.str (i++j)) H
theorem Yb:OpR X (binaryOp .Add) Yn:=Zt8
def rInS:R2:=λ x y H Q=>∃ i j,x=.str i/\y=.str j/\Q (.bl (!(Builtin.Str.occurrences j i 0 j.length 1).isEmpty)) H
theorem Zv0:OpR X (compareOp .In) rInS:=Zvz
def Zh3:List V->Hp->VK->Prop:=λ xs H Q=>∃ i:Int,xs=[.int i]/\i.natAbs.log2<1920/\Q (.str (Str.ofString (toString i))) H
theorem Eh:CallR X (.type "str") Zh3:=Zrn
end
end L2
namespace L2
open PySem PySem.Spec PyProof.Rows
section
variable {X:Cx}
def Zt1:R2:=λ x y H Q=>∃ z n,x=.str z/\y=.int n/\MulOk z n/\Q (.str (Txt.mul z n)) H
theorem Z0h:OpR X (binaryOp .Mult) Zt1:=by
 intro pins s σ H x y v u Q I rx ry h
 obtain ⟨z,n,rfl,rfl,ok,q⟩:=h
 obtain ⟨t,rfl⟩:=rx
 obtain ⟨t2,rfl⟩:=ry
 exact SB.mul ok λ t' k=>⟨.str _,H,I.tok k,⟨t',rfl⟩,q⟩
end
end L2
namespace L2
open PySem PySem.Spec PyProof.Rows
def FlyAny (B:Heap) (l:List Env) (e:Addr) (cls a0:Value) (h:Heap):Prop:=B.StaysIn h/\B.get? e=none/\h.FunFrames B l/\∃ fl,h.TracedAtW B e cls a0 fl
theorem Zjc {B:Heap} {C b:Addr} (h:B.get? b=none):(PySem.W.hideAll B [C]).get? b=none:=by
 cases q:(PySem.W.hideAll B [C]).get? b with
 | none=>rfl
 | some o =>
   have z:=PySem.W.of_hideAll _ q
   rw [h] at z; cases z
theorem Zyh {B:Heap} {C b:Addr} {o:Obj} (h:(PySem.W.hideAll B [C]).get? b=some o):B.get? b=some o/\b≠C:=by
 refine ⟨PySem.W.of_hideAll _ h,λ z=>?_⟩
 have n:=PySem.W.hideAll_none [C] (h:=B) (b:=b) (by rw [z]; exact List.mem_cons_self)
 rw [h] at n; cases n
theorem Zk3 {B h h':Heap} {C:Addr} (hC:∃ o,B.get? C=some o) (sb:Heap.SameBut C h h'):∀ {l:List Env},h.FunFrames B l->h'.FunFrames (PySem.W.hideAll B [C]) l
 | [],_=>trivial
 | env::_,⟨hk,⟨L,o,hf,hn,ho,hd⟩,hr⟩=>by
   refine ⟨hk,⟨L,o,hf,Zjc hn,?_,hd⟩,Zk3 hC sb hr⟩
   rw [sb.2 L λ z=>by obtain ⟨o',q⟩:=hC; rw [← z,hn] at q; cases q]
   exact ho
theorem Zyj {B h h':Heap} {l:List Env} {e C L:Addr} {cls a0:Value} (F:Heap.HeldW B l e cls a0 L h) (hC:∃ o,B.get? C=some o) (sb:Heap.SameBut C h h'):Heap.HeldW (PySem.W.hideAll B [C]) l e cls a0 L h':=by
 obtain ⟨f1,f2,f3,ob,ws,T,oT,ts,q1,q2,q4,q5,q6,q7,q8,q9,q10⟩:=F
 have ne:∀ b,B.get? b=none->b≠C:=λ b n z=>by
  obtain ⟨o,q⟩:=hC
  rw [← z,n] at q; cases q
 refine ⟨λ b o q=>?_,Zjc f2,Zk3 hC sb f3,ob,ws,T,oT,ts,?_,q2,q4,q5,Zjc q6,q7,?_,q9,q10⟩
 · obtain ⟨z,nz⟩:=Zyh q
   rw [sb.2 b nz]; exact f1 b o z
 · rw [sb.2 e (ne e f2)]; exact q1
 · rw [sb.2 T (ne T q6)]; exact q8
def PassX (X:Cx) (E:XK):Prop:=∀ (pins:List (Addr×Obj)) (σ:St) (H1:Hp) (s1 s5 s7:Shared) (e C:Addr) (cls:Value) (H2:Hp) (B:Heap) (a0:Value),Inv X pins σ H1 s1->Flown X.prog X.w X.base X.stack H1 s1 s5 e cls H2 B a0->E cls none H2 ->
 X.s₀.heap.objs.size<=C->C ∉ frs X.stack->H2 C=none->s7.os=s5.os->AllBare s7.gens->FlyAny (PySem.W.hideAll B [C]) X.stack e cls a0 s7.heap->CtxN e s7.heap ->
 (∀ b o,b≠C->s5.heap.get? b=some o->(∀ vs,o.data≠.fields vs)->∃ sl,s7.heap.get? b=some { o with slots:=sl })->X.xe (.ref e) s7
theorem Z18 {P:Program} {w:World} {K:Fq} {mg:Str->Option Value} {base:Heap} {N:List Str} {qual:Str} {scope:Scope} {f:Addr} {cd:Value} {A:Around} {outer:List Env} {s:Shared} {H:Hp} {E:XK} :
 PassX (cxR P w K mg base N qual scope f cd A outer s H E) E:=by
 intro pins σ H1 s1 s5 s7 e C cls H2 B a0 I F hE hC hCf hCn ho hbr fly cx up
 have nb:∀ b o,s.heap.get? b=some o->b≠C:=λ b o q z=>by
  have l:=Heap.lt_size q
  rw [z] at l
  exact absurd (Nat.lt_of_lt_of_le l hC) (Nat.lt_irrefl _)
 show wpAny (model P w) (A.deeper (envOfC qual scope s.heap.objs.size f cd)) (leaving (envOfC qual scope s.heap.objs.size f cd) (.ref e)) _ _ _
 obtain ⟨f1,f2,f3,_,f4⟩:=fly
 refine Zsy I.ok.frames rfl f1 f2 f3 f4 cx λ h2 fl cn up2=>⟨e,cls,H2,PySem.W.hideAll B [C],a0,rfl,⟨(ho.trans F.os).trans I.os,hbr,fl,cn,?_,λ b o q=>?_,F.noe,λ b o q n hb=>?_,λ b o q n hb=>?_,λ b o q n=>?_,λ b o q hb=>?_,λ b xs q=>F.tups b xs (I.base.tups b xs q),λ b o u q=>F.frzs b o u (I.base.frzs b o u q),λ b ps q=>?_⟩,hE⟩
 · intro a o q
   refine (F.hok a o q).stay (λ b u hb r=>PySem.W.hideAll_get _ r λ hm=>?_) (λ _ z=>z) λ _ _ z=>z
   have e0:b=C:=by simpa using hm
   rcases hb with z | z
   · rw [← z,e0,hCn] at q; cases q
   · rw [e0,hCn] at z; cases z
 · have q1:s.heap.get? b=some o:=(I.ok.bs b o q).1
   exact PySem.W.hideAll_get _ (F.bst b o q) (by simpa using nb b o q1)
 · exact PySem.W.hideAll_get _ (F.keep b o (I.base.keep b o q n hb (by intro z; cases z)) (I.base.free b o q n (by intro z; cases z)) (Zeu I (Heap.lt_size q) hb)) (by simpa using nb b o q)
 · obtain ⟨sl,r⟩:=I.base.slot b o q n hb (by intro z; cases z)
   have hb2:b∈frs (cxR P w K mg base N qual scope f cd A outer s H E).stack:=by
    show b∈(envOfC qual scope s.heap.objs.size f cd::outer).filterMap (·.frame)
    rw [List.filterMap_cons]
    exact List.mem_cons_of_mem _ hb
   obtain ⟨sl2,r2⟩:=F.slot b _ r (I.base.free b o q n (by intro z; cases z)) hb2
   obtain ⟨_,o2,q2,nf⟩:=I.ok.funs.mem hb
   have q3:s.heap.get? b=some o2:=q2
   rw [q] at q3
   cases q3
   obtain ⟨sl3,r3⟩:=up b _ (nb b _ q) r2 λ vs=>nf vs
   obtain ⟨sl4,r4⟩:=up2 b _ r3 λ vs=>nf vs
   exact ⟨sl4,r4⟩
 · obtain ⟨o1,r⟩:=I.base.there b o q (by intro z; cases z)
   exact F.free b o1 r (I.base.free b o q n (by intro z; cases z))
 · obtain ⟨o1,r⟩:=I.base.there b o q (by intro z; cases z)
   obtain ⟨o2,r2⟩:=F.there b o1 r (Zeu I (Heap.lt_size q) hb)
   exact ⟨o2,PySem.W.hideAll_get _ r2 (by simpa using nb b o q)⟩
 · obtain ⟨m1,e1⟩:=I.base.tbls b ps q
   obtain ⟨m2,e2⟩:=F.tbls b _ e1
   exact ⟨m1++m2,by rw [e2,Array.append_assoc]⟩
def XEof (X Y:Cx) (E:XK):Value->Shared->Prop:=λ x s'=>∃ pins σ H1 s1,Inv Y pins σ H1 s1/\CXr X.prog X.w X.base X.stack H1 s1 E x s'
abbrev G3 (X:Cx) (E:XK) (N:List Str) (scope:Scope) (cl:List (Str×Addr)) (C:Addr) (s₀:Shared) (H₀:Hp) (ex:List Addr):Cx:=(Q4 X N scope cl C s₀ H₀ ex).wish (XEof X (Q4 X N scope cl C s₀ H₀ ex) E)
theorem Z19 {X:Cx} {E:XK} {N:List Str} {scope:Scope} {cl:List (Str×Addr)} {C:Addr} {s₀:Shared} {H₀:Hp} {ex:List Addr}:Passes (CXr X.prog X.w X.base) (G3 X E N scope cl C s₀ H₀ ex) E :=
 λ pins σ H1 s1 _ _ I h=>⟨pins,σ,H1,s1,I.unwish,h⟩
theorem Zw7 {X:Cx} {N:List Str} {scope:Scope} {cl:List (Str×Addr)} {pins pins':List (Addr×Obj)} {σ σ':St} {H H':Hp} {s s':Shared} {fp:List Addr} {C:Addr} (I:Inv X pins σ H s) (f:∀ b∈fp,FpOk X pins H b) (J:Inv (Q4 X N scope cl C s H fp) pins' σ' H' s'):Inv X pins σ H' s' :=
 I.call' (ch:=fp) J.os J.base J.hok J.bare λ b hb=>⟨(f b hb).2.2.2.1,(f b hb).2.1,(f b hb).2.2.2.2.1,(f b hb).2.2.2.2.2⟩
theorem Zuq {X:Cx} {E0:XK} {pins:List (Addr×Obj)} {σ:St} {H H1:Hp} {s0 s1 s':Shared} {x acc:Value} {use:Option (Value->Sem Unit)} {Q:Value->Shared->Prop} (hp:PassX X E0) (hst:X.stack=X.env::X.outer) (hfr:X.env.frame=some X.env.locals)
 (I0:Inv X pins σ H s0) (I1:Inv X pins σ H1 s1) (hf:H1 s0.heap.objs.size=none) (hns:∃ m,s1.heap.Ns s0.heap.objs.size m) (q:CXr X.prog X.w X.base X.stack H1 s1 E0 x s') :
 notedBy (model X.prog X.w) X.A X.env (λ e s''=>compPost (model X.prog X.w) X.A X.xe use Q acc s0.heap.objs.size (.error e) s'') x s':=by
 obtain ⟨m,oC,es,ep,hoC,rest⟩:=hns
 obtain ⟨e,cls,H2,B,a0,rfl,F,hE⟩:=q
 have frm:X.A.frames=some (X.env::X.outer):=by rw [← hst]; exact I0.ok.frames
 have fly:=F.fly
 rw [hst] at fly
 unfold notedBy
 obtain ⟨y1,y2,y3,y4⟩:=fly
 refine Zt9 frm hfr y1 y2 y3 y4.at F.ctx λ h4 held cn4 up4=>?_
 have hCf:s0.heap.objs.size ∉ frs X.stack:=λ hb=>by
  obtain ⟨_,o,ho,_⟩:=I0.stack.mem hb
  exact absurd (Heap.lt_size ho) (Nat.lt_irrefl _)
 have hB:B.get? s0.heap.objs.size=some oC:=F.keep _ oC hoC hf hCf
 have fin:∃ m,Heap.Ns h4 s0.heap.objs.size m/\∀ h',Heap.SameBut s0.heap.objs.size h4 h'->∀ cenv:Env,cenv.locals=s0.heap.objs.size->wpAny (model X.prog X.w) X.A (PySem.passOn "comprehension.variables-let-go" (.ref e) cenv:Sem Value) (λ _ _=>False) X.xe { s' with heap:=h' }:=by
  refine ⟨m,⟨oC,es,ep,held.1 _ _ hB,rest⟩,λ h' sb cenv _=>?_⟩
  have held':=Zyj held ⟨oC,hB⟩ sb
  obtain ⟨_,_,_,oe,ws,T,oT,ts,q1,q2,q4,q5,_⟩:=id held'
  unfold PySem.passOn
  refine wpAny_bind (wpAny_field q1 q4 q5 ?_)
  rw [if_neg (show ¬ ((Value.ref T == Value.none)=true) by simp)]
  have go:wpAny (model X.prog X.w) X.A (setFlight (.ref e) cenv.frame >>= λ _=>(throw (.ref e):Sem Value)) (λ _ _=>False) X.xe { s' with heap:=h' }:=by
   obtain ⟨w1,w2,w3,w4⟩:=held'
   have cn:CtxN e h':=cn4.keep (sb.2 e λ z=>by rw [← z,y2] at hB; cases hB)
   refine wpAny_bind (Zs2 (s:={ s' with heap:=h' }) w1 w2 w3 w4 cn λ h7 v1 v2 v3 cn7 up7=>wpAny_throw (hp pins σ H1 s1 s' _ e s0.heap.objs.size cls H2 B a0 I1 F hE I0.sz hCf (F.free _ oC hoC hf) rfl F.bare (by rw [hst]; exact ⟨v1,w2,v2,_,v3⟩) cn7 λ b o nb r nf=>?_))
   obtain ⟨sl,r4⟩:=up4 b o r nf
   obtain ⟨sl2,r7⟩:=up7 b _ ((sb.2 b nb).trans r4) nf
   exact ⟨sl2,r7⟩
  first
   | exact wpAny_bind (wpAny_pure go)
   | exact go
 cases use <;> exact fin
theorem Zup {prog:Program} {w:World} {A:Around} {R:Result->Shared->Prop} {s:Shared} {elt target iter:Expr} {ifs:List Expr} {scope:Scope} {pos:Pos} {it acc:Value} {env:Env} {E1:Value->Shared->Prop} (hE1:∀ x s',E1 x s'->notedBy (model prog w) A env (λ e s''=>R (.error e) s'') x s') (Iv:Nat->Shared->Prop)
 (turn:∀ n s,Iv n s->wpAny (model prog w) A (pyNext it) (λ r s1=>match r with
  | none=>R (.ok .next) s1
  | some v=>wpAny (model prog w) A (letOwnedTupleGo target it v) (λ _ s2=>wpAny (model prog w) A (assign target env v) (λ _ s3=>wpAny (model prog w) A (Zls ifs env) (λ ok s4 =>
   if ok=true then wpAny (model prog w) A (eval elt env) (λ x s5=>wpAny (model prog w) A (call (.builtin "list.append") [acc,x]) (λ _ s6=>∃ m,m<n/\Iv m s6) E1 s5) E1 s4
   else ∃ m,m<n/\Iv m s4) E1 s3) E1 s2) E1 s1) E1 s)
 (n:Nat) (h:Iv n s):codeAny (model prog w) A (.compLoop (.ListComp elt [⟨target,iter,ifs,0⟩] scope pos) 0 it acc env) R s:=by
 refine codeAny_loop rfl Iv (λ n s hI=>?_) n h
 show wpAny (model prog w) A ((compTurn (.ListComp elt [⟨target,iter,ifs,0⟩] scope pos) 0 it acc env).onRaise λ x=>(noteFrame x env >>= λ _=>theTreesLotGoes x)) _ _ s
 refine wpAny_noted (wpAny_mono ?_ (λ _ _ q=>q) hE1)
 rw [compTurn_list]
 refine wpAny_bind (wpAny_standAt (wpAny_bind (thn (turn n s hI) λ r s1 h1=>?_)))
 cases r with
 | none=>exact wpAny_pure h1
 | some v =>
   refine wpAny_bind (thn h1 λ _ s2 h2=>wpAny_bind (thn h2 λ _ s3 h3=>wpAny_bind (thn h3 λ ok s4 h4=>?_)))
   cases ok with
   | false=>exact wpAny_pure ⟨rfl,h4⟩
   | true=>exact wpAny_bind (wpAny_bind (thn h4 λ x s5 h5=>wpAny_bind (thn h5 λ _ s6 h6=>wpAny_pure (wpAny_pure ⟨rfl,h6⟩))))
section
variable {X:Cx} {tg elt iter:Expr} {ifs:List Expr} {N:List Str} {l:List (Option Nat)} {scope:Scope} {pos:Pos} {wi:TI} {g:TG} {tc:TT} {te:TE}
theorem Zsk {E0:XK} {cl:List (Str×Addr)} {pins:List (Addr×Obj)} {σ:St} {H:Hp} {s:Shared} {J:It} {fp:List Addr} {it:Addr} {tn:Nat->Heap->Prop} {RR:Value->Addr->Result->Shared->Prop} {Q:Addr->Hp->Prop} {E:Value->Shared->Prop}
 (hc:X.calm=true) (S:CompScope X N l scope) (c1:∀ x c,cl.lookup x=some c->X.env.cells.lookup x=some c) (c2:∀ y∈scope.names,y.2=.free->∃ c,cl.lookup y.1=some c)
 (hg:∀ C s H ex,PG (G3 X E0 N scope cl C s H ex) tg g) (hi:∀ C s H ex,PIfs (G3 X E0 N scope cl C s H ex) ifs tc) (he:∀ C s H ex,PE (G3 X E0 N scope cl C s H ex) elt te)
 (I:Inv X pins σ H s) (T:Turn X.prog X.w X.K tg J fp it tn) (t0:tn 0 s.heap) (f:∀ b∈fp,FpOk X pins H b)
 (hW:∀ D,H D=none->∃ W:CompW,(∃ m,W 0 m [] (X5 l σ) (upd H D (.lst [])))/\Jt J g tc te D W (Q D))
 (hR:∀ D s0 H' s',Inv X pins σ (upd H D (.lst [])) s0->Inv X pins σ H' s'->H' s0.heap.objs.size=none->(∃ m,s'.heap.Ns s0.heap.objs.size m)->Q D H'->RR (.ref D) s0.heap.objs.size (.ok .next) s')
 (hX:∀ D s0 H1 s1 x s',Inv X pins σ (upd H D (.lst [])) s0->Inv X pins σ H1 s1->H1 s0.heap.objs.size=none->(∃ m,s1.heap.Ns s0.heap.objs.size m)->CXr X.prog X.w X.base X.stack H1 s1 E0 x s'->notedBy (model X.prog X.w) X.A X.env (λ e s''=>RR (.ref D) s0.heap.objs.size (.error e) s'') x s') :
 wpAny (model X.prog X.w) X.A (newList []) (λ acc s3=>wpAny (model X.prog X.w) X.A (newFunctionEnv scope X.env.globals cl [] X.env.qual none .none (some X.env)) (λ cenv s4 =>
  codeAny (model X.prog X.w) X.A (.compStart (.ListComp elt [⟨tg,iter,ifs,0⟩] scope pos) 0 (.ref it) acc { cenv with scope:=relabel scope X.env }) (RR acc cenv.locals) s4) E s3) E s:=by
 refine wpAny_newObj_type (wpAny_newFunctionEnv (λ y hy=>by have:=List.all_eq_true.mp S.nocell y hy; simpa using this) (λ y hy=>absurd hy (by simp)) (λ h4 hn4 sb4=>?_) S.kind)
 have kept3:∀ b u,s.heap.get? b=some u->(s.heap.push { cls:=.type "list",dict:=none,data:=.seq ([]:List Value).toArray }).get? b=some u:=λ b u e=>Heap.get?_push_of_some _ e
 have hD:H s.heap.objs.size=none:=I.hok.fresh (Nat.le_refl _)
 have I3:Inv X pins σ (upd H s.heap.objs.size (.lst [])) { s with heap:=s.heap.push { cls:=.type "list",dict:=none,data:=.seq ([]:List Value).toArray } } :=
  I.laid (t':=s.toks) kept3 (Nat.le_refl _) ⟨Nat.zero_le _,[],0,.nil,Heap.get?_push_size _ rfl⟩
 generalize hh3:s.heap.push { cls:=.type "list",dict:=none,data:=.seq ([]:List Value).toArray }=h3 at kept3 I3 hn4 sb4 ⊢
 have fpIn:∀ b∈fp,∃ o,s.heap.get? b=some o:=λ b hb=>let ⟨o,e,_⟩:=T.obj _ _ t0 b hb; ⟨o,e⟩
 have f3:∀ b∈fp,FpOk X pins (upd H s.heap.objs.size (.lst [])) b:=λ b hb=>by
  obtain ⟨o,e⟩:=fpIn b hb
  exact ⟨by rw [Z1 (Nat.ne_of_lt (Heap.lt_size e))]; exact (f b hb).1,(f b hb).2⟩
 have kept4:∀ b o,h3.get? b=some o->h4.get? b=some o:=λ b o e=>sb4.extBut b o (Nat.ne_of_lt (Heap.lt_size e)) (Heap.get?_push_of_some _ e)
 have J4:=Zqx S I3 c1 c2 f3 (λ b hb=>let ⟨o,e⟩:=fpIn b hb; ⟨o,kept3 b o e⟩) hn4 kept4 (s.toks+([]:List (Str×Value)).length)
 have t4:tn 0 h4:=T.keep _ _ _ t0 λ b _ o e=>kept4 b o (kept3 b o e)
 obtain ⟨W,⟨m0,w0⟩,step⟩:=hW _ hD
 have loop:∀ s4:Shared,s4={ s with heap:=h4,toks:=s.toks+([]:List (Str×Value)).length } ->
  codeAny (model X.prog X.w) X.A (.compLoop (.ListComp elt [⟨tg,iter,ifs,0⟩] scope pos) 0 (.ref it) (.ref s.heap.objs.size) (compEnvC scope cl h3.objs.size X.env)) (RR (.ref s.heap.objs.size) h3.objs.size) s4:=by
  rintro s4 rfl
  have J4:=J4.wish (XEof X (Q4 X N scope cl h3.objs.size { s with heap:=h3 } (upd H s.heap.objs.size (.lst [])) fp) E0)
  generalize hY:(Q4 X N scope cl h3.objs.size { s with heap:=h3 } (upd H s.heap.objs.size (.lst [])) fp).wish (XEof X (Q4 X N scope cl h3.objs.size { s with heap:=h3 } (upd H s.heap.objs.size (.lst [])) fp) E0)=Y at J4
  have eP:Y.prog=X.prog:=by rw [← hY]; rfl
  have ew:Y.w=X.w:=by rw [← hY]; rfl
  have eK:Y.K=X.K:=by rw [← hY]; rfl
  have ec:Y.calm=true:=by rw [← hY]; exact hc
  have eA:Y.A=X.A:=by rw [← hY]; rfl
  have ee:Y.env=compEnvC scope cl h3.objs.size X.env:=by rw [← hY]; rfl
  have xx:∀ x s',Y.xe x s'->notedBy (model X.prog X.w) X.A (compEnvC scope cl h3.objs.size X.env) (λ e s''=>RR (.ref s.heap.objs.size) h3.objs.size (.error e) s'') x s':=λ x s' q=>by
   rw [← hY] at q
   obtain ⟨pp,σ',H1,s1,J1,cx⟩:=q
   obtain ⟨m1,n1,_⟩:=J1.loc
   exact hX _ { s with heap:=h3 } H1 s1 x s' I3 (Zw7 I3 f3 J1) J1.free ⟨m1,n1⟩ cx
  have stat:∀ {H':Hp},(∀ b∈fp,H' b=none)->∀ b∈fp,FpOk Y [] H' b:=λ {H'} hn b hb=>by
   rw [← hY]
   obtain ⟨o,e⟩:=fpIn b hb
   refine ⟨hn b hb,Nat.ne_of_lt (Heap.lt_size (kept3 b o e)),λ z=>?_,.inl hb,λ x c q=>(f3 b hb).2.2.2.2.1 x c (c1 x c q),λ p hp=>absurd (show p∈([]:List (Addr×Obj)) from hp) (by simp)⟩
   rcases List.mem_cons.mp (I3.stkSub b z) with q | q
   · exact (f3 b hb).2.1 q
   · exact (f3 b hb).2.2.1 q
  refine Zup xx (λ n s'=>∃ i ys σ' H',Inv Y [] σ' H' s'/\tn i s'.heap/\(∀ b∈fp,H' b=none)/\W i n ys σ' H') ?_ m0 ⟨0,[],X5 l σ,_,J4,t4,λ b hb=>(f3 b hb).1,w0⟩
  rintro n s5 ⟨i,ys,σ5,H5,J5,t5,fr5,w5⟩
  obtain ⟨hDl,st⟩:=step i n ys σ5 H5 w5
  rw [← eP,← ew,← eA,← ee]
  rcases st with ⟨stop,q⟩ | ⟨go,NA,NB,hA,hB,nxt⟩
  · have d:=T.done Y eP ew eK ec i [] s5 σ5 H5 Y.xe J5 (stat fr5) t5 stop
    rw [← eP,← ew] at d
    refine thn d λ r s6 ⟨hr,J6⟩=>?_
    subst hr
    rw [← hY] at J6
    have J6:=J6.unwish
    obtain ⟨m6,n6,_⟩:=J6.loc
    exact hR _ { s with heap:=h3 } H5 s6 I3 (Zrj I3 f3 J6) J6.free ⟨m6,n6⟩ q
  · have d:=T.item Y eP ew eK ec i [] s5 σ5 H5 Y.xe J5 (stat fr5) t5 go
    rw [← eP,← ew] at d
    refine thn d λ r s6 ⟨u,hr,h6⟩=>?_
    subst hr
    refine thn h6 λ _ s7 ⟨x,H7,J7,r7,y7,t7,fr7⟩=>?_
    have J7':=J7.pinned (stat fr7) (T.obj _ _ t7)
    have back:∀ {σ8:St} {H8:Hp} {s8:Shared},Inv Y ([]++Zcm fp s7.heap) σ8 H8 s8->tn (i+1) s8.heap/\(∀ b∈fp,H8 b=none):=λ {σ8 H8 s8} J8=>by
     refine ⟨T.keep _ _ _ t7 λ b hb o e=>(J8.pin (b,o) (List.mem_append_right _ (List.mem_append_right _ (Ww hb e)))).1,λ b hb=>?_⟩
     obtain ⟨o,e,_⟩:=T.obj _ _ t7 b hb
     exact (J8.pin (b,o) (List.mem_append_right _ (List.mem_append_right _ (Ww hb e)))).2.1
    have hg':PG Y tg g:=by rw [← hY]; exact hg _ _ _ _
    have hi':PIfs Y ifs tc:=by rw [← hY]; exact hi _ _ _ _
    have he':PE Y elt te:=by rw [← hY]; exact he _ _ _ _
    have a7:=hg' _ s7 σ5 H7 x u _ J7' r7 (nxt x H7 y7)
    refine thn a7 λ _ s8 ⟨σ8,H8,J8,q8⟩=>?_
    have a8:=hi' _ s8 σ8 H8 _ J8 q8
    refine thn a8 λ ok s9 ⟨H9,J9,q9⟩=>?_
    cases ok with
    | false =>
      have q9':NB σ8 H9:=by simpa using q9
      obtain ⟨m',hm,w9⟩:=hB _ _ q9'
      obtain ⟨t9,fr9⟩:=back J9
      show ∃ m,m<n/\_
      exact ⟨m',hm,i+1,ys,σ8,H9,J9.unpinned,t9,fr9,w9⟩
    | true =>
      rw [if_pos rfl] at q9
      show wpAny _ _ (eval elt Y.env) _ _ s9
      have a9:=he' _ s9 σ8 H9 _ J9 q9
      refine thn a9 λ xv s10 ⟨v,H10,J10,r10,q10⟩=>?_
      obtain ⟨hD10,hz,m',hm,w10⟩:=hA _ _ _ q10
      have a10:=Ed _ s10 σ8 H10 (.ref s.heap.objs.size) [v] (.ref s.heap.objs.size) [xv] (λ _ H'=>H'=upd H10 s.heap.objs.size (.lst (ys++[v]))) J10 rfl (.cons r10 .nil) ⟨_,ys,v,rfl,rfl,hD10,hz,rfl⟩
      refine thn a10 λ _ s11 ⟨_,H11,J11,_,e11⟩=>?_
      subst e11
      obtain ⟨t11,fr11⟩:=back J11
      exact ⟨m',hm,i+1,ys++[v],σ8,_,J11.unpinned,t11,fr11,w10⟩
 exact codeAny_compStart_list (loop _ rfl) (T.self _ 0 _ _ _ t4 (loop _ rfl))
theorem Zr7 {E0:XK} {i:Nat} {x:Str} {pos' pos2:Pos} (hp:PassX X E0) (hst:X.stack=X.env::X.outer) (hfr:X.env.frame=some X.env.locals) (hc:X.calm=true) (hN:X.N.Nodup) (hi':X.N[i]?=some x) (hx:X.env.scope.names.lookup x=some .local) (S:CompScope X N l scope) (hw:PI X tg iter wi)
 (hg:∀ cl C s H ex,PG (G3 X E0 N scope cl C s H ex) tg g) (hi:∀ cl C s H ex,PIfs (G3 X E0 N scope cl C s H ex) ifs tc) (he:∀ cl C s H ex,PE (G3 X E0 N scope cl C s H ex) elt te)
 (hsw:swapsWith (.ListComp elt [⟨tg,iter,ifs,0⟩] scope pos) (some (.Name x pos')) pos2.line X.env=pure true:=by rfl)
 (hs:∀ x,foldedSetIterable iter X.env x=pure x:=by intro _; rfl):PS X (.Assign [.Name x pos'] (.ListComp elt [⟨tg,iter,ifs,0⟩] scope pos) pos2) (Z6 (Xq l wi g tc te) (Zt i)):=by
 intro pins s σ H D I h
 obtain ⟨cl,e1,c1,c2⟩:=Zf3 S I
 rw [exec_Assign_Name_used _ _ _ _ hsw]
 refine wpAny_bind (wpAny_standAt (wpAny_bind ?_))
 show wpAny _ X.A (comprehension (.ListComp elt [⟨tg,iter,ifs,0⟩] scope pos) scope X.env _ (newList []) false (eval iter X.env) (some (assign (.Name x pos') X.env)) >>= λ _=>_) _ _ s
 refine wpAny_bind (thn (wpAny_comprehension_free (use:=some (assign (.Name x pos') X.env)) (Q:=λ _ s'=>SP X pins D .next s') rfl hs e1 S.kind (Zea S) (thn (hw pins s σ H _ I h) λ v s1 h1=>thn h1 λ itv s2 h2=>?_)) λ _ s' hq=>wpAny_pure (wpAny_pure hq))
 obtain ⟨it,fp,tn,J,H2,e,I2,T,st2,f2,hW⟩:=h2
 subst e
 refine Zsk hc S c1 c2 (hg cl) (hi cl) (he cl) I2 T st2 f2 hW (λ L s0 H' s' I0 I' hf hns q=>?_) λ L s0 H1 s1 x s' I0 I1 hf hns q=>Zuq hp hst hfr I0 I1 hf hns q
 obtain ⟨m,hm⟩:=hns
 show wpAny _ X.A (assign (.Name x pos') X.env (.ref L)) _ _ s'
 refine wpAny_assign_Name (Zgy I' hN hi' (.inl hx) (v:=.ref L) rfl (λ s2 I2 hsb=>?_) (.inr hx))
 obtain ⟨a,sb,ha⟩:=hsb
 have hne:s0.heap.objs.size≠a:=by
  rcases ha with z | z
  · rw [z]; exact Nat.ne_of_gt I0.lt
  · obtain ⟨v,cc⟩:=I0.cell x a z
    exact Nat.ne_of_gt cc.lt
 exact ⟨m,hm.sameBut sb hne,λ h'' sb2=>⟨_,H',Zhr I0 hf I2 sb2,q⟩⟩
end
end L2
namespace L2
open PySem PySem.Spec PyProof.Rows
section
variable {X:Cx} {tg:Expr} {pins:List (Addr×Obj)} {σ:St} {H:Hp} {s:Shared} {d:Addr} {o:Obj} {kvs:List (Key×V)}
theorem Inv.freeze (I:Inv X pins σ H s) (e:H d=some (.dK kvs)):∃ o,Inv X pins σ (upd H d (.frz o (.dK kvs))) s:=by
 obtain ⟨z,y,vs,r,ob,es,ep,g,c⟩:=id (show ObjOk X.prog X.w H s.heap d (.dK kvs) from I.hok d _ e)
 exact ⟨ob,I.write (h':=s.heap) (t':=s.toks) (x:=d) (e:=d) (by rw [e]; trivial) (.inl rfl) (λ _ _ _ q=>q) ⟨ob,g⟩ ⟨g,z,y,vs,r,ob,es,ep,g,c⟩⟩
theorem Inv.thaw (I:Inv X pins σ H s) (e:H d=some (.frz o (.dK kvs))) (nf:∀ ob u,X.H₀ d≠some (.frz ob u)):Inv X pins σ (upd H d (.dK kvs)) s:=by
 have no:∀ b u,H b=u->u≠some (.frz o (.dK kvs))->upd H d (.dK kvs) b=u:=λ b u q n=>by
  rw [Z1 (λ z=>by rw [z,e] at q; exact n q.symm)]; exact q
 refine ⟨I.ok,I.os,I.bare,⟨I.base.keep,I.base.slot,λ b ob q n hx=>no b _ (I.base.free b ob q n hx) (by simp),I.base.there,λ b xs q=>no b _ (I.base.tups b xs q) (by simp),λ b ob u q=>?_,λ b ps q=>?_⟩,I.loc,I.cell,no _ _ I.free (by simp),λ x c q=>no c _ (I.freeC x c q) (by simp),λ p hp=>?_,λ b u q=>?_,I.len⟩
 · have z:=I.base.frzs b ob u q
   rw [Z1 (λ w=>nf ob u (by rw [← w]; exact q))]; exact z
 · obtain ⟨m,z⟩:=I.base.tbls b ps q
   exact ⟨m,no b _ z (by simp)⟩
 · obtain ⟨a1,a2,a3⟩:=I.pin p hp
   exact ⟨a1,no _ _ a2 (by simp),a3⟩
 · by_cases hb:b=d
   · subst hb
     rw [Zr] at q
     cases q
     obtain ⟨_,z⟩:=(show ObjOk X.prog X.w H s.heap b (.frz o (.dK kvs)) from I.hok b _ e)
     exact z
   · rw [Z1 hb] at q
     exact (I.hok b u q).stay (λ c v _ r=>r) (λ c r=>no c _ r (by simp)) λ c xs r=>no c _ r (by simp)
theorem Z01 (I:Inv X pins σ H s) (e:H d=some (.frz o (.dK kvs))) {es ep} (ho:o.data=.dict es ep):∃ vs,KV kvs vs/\s.heap.DictAt (Yy X.prog X.w) d vs ep:=by
 obtain ⟨g,z,y,vs,r,ob,es',ep',g',c1,c2,c3⟩:=(show ObjOk X.prog X.w H s.heap d (.frz o (.dK kvs)) from I.hok d _ e)
 rw [g] at g'
 cases g'
 rw [ho] at c2
 cases c2
 exact ⟨vs,r,o,es,g,c1,ho,c3⟩
def Ends.held (D:Ends) (d:Addr) (o:Obj) (kvs:List (Key×V)):Ends where
 nx:=λ σ H=>H d=some (.frz o (.dK kvs))/\D.nx σ (upd H d (.dK kvs))
 rt:=λ v H=>H d=some (.frz o (.dK kvs))/\D.rt v (upd H d (.dK kvs))
 bk:=λ σ H=>H d=some (.frz o (.dK kvs))/\D.bk σ (upd H d (.dK kvs))
 ct:=λ σ H=>H d=some (.frz o (.dK kvs))/\D.ct σ (upd H d (.dK kvs))
theorem DGet.f {k:Key} (e:H d=some (.frz o (.dK kvs))):DGet H d (kV k) (valV kvs k):=.inl ⟨kvs,k,.inr ⟨o,e⟩,rfl,rfl⟩
def Zt2:List V->Hp->VK->Prop:=λ xs H Q=>∃ (a:Addr) (kvs:List (Key×V)),xs=[.ref a]/\H a=some (.dK kvs)/\Q (.int (kvs.length:Nat)) H
theorem Zxa:CallR X (.builtin "len") Zt2:=by
 intro pins s σ H xs us Q I r h
 obtain ⟨a,kvs,rfl,ha,q⟩:=h
 obtain ⟨u,rfl,ru⟩:=U4 r
 cases ru
 exact Z3x I (.inl ha) λ t s' I'=>⟨.int (kvs.length:Nat),H,I',⟨t,rfl⟩,q⟩
theorem Z1m {a:Addr} {Q:VK} (h:H a=some (.dK kvs)) (q:Q (.int (kvs.length:Nat)) H):Zt2 [.ref a] H Q:=⟨a,kvs,rfl,h,q⟩
end
end L2
namespace L2
open PySem PySem.Spec PyProof.Rows
theorem Zoo:entryFor table "proto.unchain"=some Builtin.«proto.unchain»:=entryFor_of_fast (by kernel_rfl)
theorem Zob:plainId "proto.unchain"=true:=by decide +kernel
def HdOk (A:Around) (h:Heap):Prop:=A.handled=none\/∃ e,A.handled=some (.ref e)/\CtxN e h
section
variable {prog:Program} {w:World} {A:Around} {E:Value->Shared->Prop} {s:Shared}
theorem Zvo {α:Type} {a:Addr} {o:Obj} {vs:Array Value} {Q:α->Shared->Prop} (hd:HdOk A s.heap) (q1:s.heap.get? a=some o) (q2:o.data=.fields vs) (q3:2<vs.size) (ne:∀ e,A.handled=some (.ref e)->e≠a)
 (k:∀ h',Heap.SameBut a s.heap h'->(∃ o',h'.get? a=some o'/\o'.cls=o.cls)->E (.ref a) { s with heap:=h' }):wpAny (model prog w) A (raiseNew (.ref a):Sem α) Q E s:=by
 simp only [raiseNew]
 rcases hd with hd | ⟨e,hd,oe,ws,r1,r2,r3⟩
 · refine wpAny_bind (wpAny_handled ?_)
   rw [hd]
   exact wpAny_bind (wpAny_pure (wpAny_throw (k _ (Heap.SameBut.refl _ _) ⟨o,q1,rfl⟩)))
 · refine wpAny_bind (wpAny_handled ?_)
   rw [hd]
   have nea:e≠a:=ne e hd
   have hne:(Value.ref e != Value.ref a)=true:=by simp [nea]
   dsimp only
   rw [if_pos hne]
   refine wpAny_bind (wpAny_holding (wpAny_runValue (codeAny_builtin Zoo ?_)))
   rw [Around.under_plainId Zob _]
   unfold Builtin.«proto.unchain»
   refine wpAny_bind (wpAny_field r1 r2 r3 ?_)
   rw [if_pos (by simp)]
   refine wpAny_pure (wpAny_bind ?_)
   refine wpAny_setField (x:=Value.ref e) q1 q2 q3 (wpAny_throw (k _ (Heap.SameBut.update ..) ⟨_,Heap.get?_update_self _ q1 (Obj.isFreed_of_fields (Obj.data_mapFields q2 _)),Obj.cls_mapFields _ _⟩))
theorem Zoc {K:Type} [DecidableEq K] {knd:KeyKind prog w K} {it d:Addr} {i ep:Nat} {kvs:List (K×Value)} {Q:Option Value->Shared->Prop} (hh:HdOk A s.heap) (hit:s.heap.IsKeyIter it d i kvs.length ep)
 (hm:s.heap.DictAt knd d kvs ep) (hx:kvs[i]?=none) (nit:∀ e,A.handled=some (.ref e)->e≠it)
 (k:∀ h',Heap.ExtBut it s.heap h'->Q none { s with heap:=h' }):wpAny (model prog w) A (pyNext (.ref it)) Q E s:=by
 obtain ⟨o,ho,hc,hd⟩:=id hit
 obtain ⟨od,es,hod,hcd,hdd,hk,hp,hn⟩:=id hm
 unfold pyNext
 refine wpAny_bind (wpAny_attempt (wpAny_callSpecial?_slot (name:=Str.ofString "__next__") hit.typeIs F.slot_dict_keyiterator_next (wpAny_call_entry F.slot_dict_keyiterator_next hit.typeIs F.entry_dict_keyiterator_next ?_ (F.args_dict_keyiterator_next_1 _))))
 refine wpAny_bind (wpAny_pure (wpAny_bind (wpAny_bind ?_)))
 first | refine wpAny_bind (wpAny_typeNameOfWhole_keyiter hit.typeIs (wpAny_pure ?_)) | refine wpAny_bind (wpAny_typeNameOf_keyiter hit.typeIs (wpAny_pure ?_))
 refine wpAny_bind (wpAny_fieldsOf ho hd ?_)
 have ot:Builtin.Dict_items.ownsTuple "dict_keyiterator"=false:=by decide
 simp only [ot,Bool.false_eq_true,if_false]
 show wpAny _ _ (if (Value.ref d == Value.none)=true then _ else _) _ _ s
 rw [if_neg (show ¬ ((Value.ref d == Value.none)=true) by simp)]
 refine wpAny_bind (wpAny_pure (wpAny_bind (wpAny_dictEntries hod hdd ?_)))
 have sz:es.size=kvs.length:=by rw [← hp.length]; simp
 rw [if_neg (by rw [sz]; simp)]
 refine wpAny_bind (wpAny_pure (wpAny_bind (wpAny_dictEpoch hod hdd ?_)))
 rw [if_neg (by simp)]
 refine wpAny_pure ?_
 have ge:es.size<=i:=by rw [sz]; simpa using hx
 simp only [show ¬ ((i:Int)<0) by omega,if_false,Int.toNat_natCast,Array.getElem?_eq_none ge]
 refine wpAny_bind ?_
 first | refine wpAny_bind (wpAny_typeNameOfWhole_keyiter hit.typeIs (wpAny_pure ?_)) | refine wpAny_bind (wpAny_typeNameOf_keyiter hit.typeIs (wpAny_pure ?_))
 show wpAny _ _ (setField (.ref it) 0 .none >>= _) _ _ s
 refine wpAny_bind (wpAny_setField ho hd (by simp) ?_)
 show wpAny _ _ (newExc (.type "StopIteration") [] >>= _) _ _ _
 refine wpAny_bind ?_
 simp only [newExc,newTuple]
 refine wpAny_bind (wpAny_newObj_type ?_ (by size_fits))
 refine wpAny_bind (m:=firstArgMember _ _) (wpAny_of_eq (a:=Value.none) (by first | rfl | (simp only [firstArgMember]; rfl)) ?_)
 refine wpAny_newObj_type ?_ (by size_fits)
 dsimp only
 have sb:Heap.SameBut it s.heap (s.heap.update it (Obj.mapFields λ x=>x.setIfInBounds 0 Value.none)):=Heap.SameBut.update ..
 generalize (s.heap.update it (Obj.mapFields λ x=>x.setIfInBounds 0 Value.none))=g1 at sb ⊢
 have kp:∀ b o,b≠it->s.heap.get? b=some o->((g1.push { cls:=Value.type "tuple",data:=Data.seq #[] }).push { cls:=.type "StopIteration",dict:=none,data:=.fields #[.ref g1.objs.size,.none,.none,.none,.bool false,.none] }).get? b=some o:=λ b o nb r =>
  Heap.get?_push_of_some _ (Heap.get?_push_of_some _ ((sb.2 b nb).trans r))
 refine Zvo (o:={ cls:=.type "StopIteration",dict:=none,data:=.fields #[.ref g1.objs.size,.none,.none,.none,.bool false,.none] }) ?_ (Heap.get?_push_size _ rfl) rfl (by show 2<6; decide) (λ e q=>?_) λ h' sb' ho'=>?_
 · rcases hh with z | ⟨e,z,oe,ws,r1,r2,r3⟩
   · exact .inl z
   · exact .inr ⟨e,z,oe,ws,kp e oe (nit e z) r1,r2,r3⟩
 · rcases hh with z | ⟨e',z,oe,ws,r1,r2,r3⟩
   · have q':A.handled=some (.ref e):=q
     rw [z] at q'; cases q'
   · have q':A.handled=some (.ref e):=q
     rw [z] at q'
     cases q'
     have l:=Heap.lt_size (Heap.get?_push_of_some { cls:=Value.type "tuple",data:=Data.seq #[] } ((sb.2 _ (nit _ z)).trans r1))
     exact Nat.ne_of_lt l
 · obtain ⟨o',r',c'⟩:=ho'
   refine wpAny_bind (wpAny_isInstance (T:="StopIteration") (b:=true) ⟨_,r',c'⟩ isSubtype_stop ?_)
   refine wpAny_pure (k _ λ b o nb r=>?_)
   have l:=Heap.lt_size (Heap.get?_push_of_some { cls:=Value.type "tuple",data:=Data.seq #[] } ((sb.2 b nb).trans r))
   exact (sb'.2 b (Nat.ne_of_lt l)).trans (kp b o nb r)
end
def ExPc (e C:Addr):Heap->Prop:=λ h=>∃ o,h.get? e=some o/\o.cls=.ref C/\∃ vs,o.data=.fields vs/\vs[2]?=some Value.none
theorem ExPc.ctx {e C:Addr} {h:Heap} (x:ExPc e C h):CtxN e h:=let ⟨o,a,_,vs,b,c⟩:=x; ⟨o,vs,a,b,c⟩
theorem ExPc.exp {e C:Addr} {h:Heap} (x:ExPc e C h):ExP e C h:=let ⟨o,a,b,_⟩:=x; ⟨o,a,b⟩
theorem Zzy {P:Program} {w:World} {x:Str} {u:Value} (hi:(Yy P w).is (Sum.inr x) u=true):∃ t,u=.str x t:=by
 rw [Zkq] at hi
 exact Value.isStrOf_shape hi
def Zov (e:Addr) (j:Nat) (g:TG) (tb:TS):TS:=λ D σ H=>∃ (d:Addr) (kvs:List (Key×V)) (ks:List Str),σ[j]?=some (some (.ref d))/\H d=some (.dK kvs)/\kvs.map (·.1)=ks.map Sum.inr/\∀ o,∃ W:Nat->Nat->St->Hp->Prop,
 (∃ m,W 0 m σ (upd H d (.frz o (.dK kvs))))/\∀ i m σ' H',W i m σ' H'->H' d=some (.frz o (.dK kvs))/\(∃ C,H' e=some (.ext (ExPc e C)))/\((ks.length<=i/\(D.held d o kvs).nx σ' H') \/
  (∃ x,ks[i]?=some x/\∃ N:St->Hp->Prop,(∀ σ2 H2,N σ2 H2->∃ m',m'<m/\W (i+1) m' σ2 H2)/\g (.str x) σ' H' λ σ2 H2=>tb { D.held d o kvs with nx:=N,ct:=N,bk:=(D.held d o kvs).nx } σ2 H2))
theorem Zz6 {X:Cx} {tg l:Expr} {body:List Stmt} {g:TG} {tb:TS} {pos:Pos} {e:Addr} {j:Nat} (hp:PassesOwn (model X.prog X.w) X.A X.env X.xe) (hh:X.A.handled=some (.ref e)) (hl:PE X l (Zc j)) (hg:PG X tg g) (hb:PSs X body tb)
 (hs:∀ x,foldedSetIterable l X.env x=pure x:=by intro _; rfl):PS X (.For tg l body [] pos) (Zov e j g tb):=by
 intro pins s σ H D I ⟨d,kvs,ks,hσ,hd,hk,w⟩
 obtain ⟨o,I1⟩:=I.freeze hd
 have nf:∀ ob u,X.H₀ d≠some (.frz ob u):=λ ob u z=>by
  have:=I.base.frzs d ob u z
  rw [hd] at this; cases this
 obtain ⟨W,⟨m0,w0⟩,turn⟩:=w o
 have main:wpAny (model X.prog X.w) X.A (exec (.For tg l body [] pos) X.env) (SP X pins (D.held d o kvs)) X.xe s:=by
  refine wpAny_For (thn (hl pins s σ _ (λ v H'=>v=.ref d/\H'=upd H d (.frz o (.dK kvs))) I1 ⟨_,hσ,rfl,rfl⟩) λ v s1 ⟨y,H1,I2,r1,ey,eH⟩=>?_) hs
  subst ey
  subst eH
  cases r1
  obtain ⟨g0,z,sy,vs,r,ob,es,ep,g',c1,c2,c3⟩:=id (show ObjOk X.prog X.w _ s1.heap d (.frz o (.dK kvs)) from I2.hok d _ Zr)
  have eo:ob=o:=by rw [g0] at g'; cases g'; rfl
  subst eo
  have hm:s1.heap.DictAt (Yy X.prog X.w) d vs ep:=⟨ob,es,g0,c1,c2,c3⟩
  have lv:vs.length=ks.length:=by rw [← r.length]; have:=congrArg List.length hk; simpa using this
  refine wpAny_pyIter_dict sy hm ?_
  have nit:upd H d (.frz ob (.dK kvs)) s1.heap.objs.size=none:=I2.hok.fresh (Nat.le_refl _)
  have fit:∀ {H':Hp},H' s1.heap.objs.size=none->FpOk X pins H' s1.heap.objs.size:=λ q=>⟨q,(I2.fpOk (Nat.le_refl _) nit).2⟩
  refine codeAny_forLoop_any (λ n s'=>∃ i σ' H',Inv X pins σ' H' s'/\s'.heap.IsKeyIter s1.heap.objs.size d i ks.length ep/\H' s1.heap.objs.size=none/\W i n σ' H') ?_ m0
   ⟨0,σ,_,I2.kept (t':=s1.toks) λ b o q=>Heap.get?_push_of_some _ q,⟨_,Heap.get?_push_size _ rfl,rfl,by rw [lv]; rfl⟩,nit,w0⟩
  rintro n s3 ⟨i,σ3,H3,I3,st3,fr3,w3⟩
  obtain ⟨hd3,⟨C,he3⟩,tt⟩:=turn i n σ3 H3 w3
  have ob3:=(show ObjOk X.prog X.w H3 s3.heap e (.ext (ExPc e C)) from I3.hok e _ he3).1
  obtain ⟨vs3,r3,hm3⟩:=Z01 I3 hd3 c2
  have lv3:vs3.length=ks.length:=by rw [← r3.length]; have:=congrArg List.length hk; simpa using this
  obtain ⟨f0,f1,f2,f3,f4,f5⟩:=fit fr3
  rcases tt with ⟨hge,qn⟩ | ⟨x,hx,N,hN,step⟩
  · refine wpAny_passesOwn hp (Zoc (knd:=Yy X.prog X.w) (.inr ⟨e,hh,ob3.ctx⟩) (by rw [lv3]; exact st3) hm3 (List.getElem?_eq_none (by omega)) (λ e' q z=>?_) λ h' eb=>?_)
    · rw [hh] at q
      cases q
      rw [z,fr3] at he3; cases he3
    · exact wpAny_execs_nil ⟨σ3,H3,I3.turned (t':=s3.toks) (λ b o hb q=>eb b o hb q) f0 f1 f3 f4 f5,qn⟩
  · have kx:(vs3.map (·.1))[i]?=some (Sum.inr x):=by rw [← r3.keys,hk,List.getElem?_map,hx]; rfl
    rw [List.getElem?_map] at kx
    obtain ⟨⟨kk,xx⟩,ex,ek⟩:=Option.map_eq_some_iff.mp kx
    have ek':kk=Sum.inr x:=ek
    subst ek'
    refine wpAny_passesOwn hp (wpAny_pyNext_dict_item (knd:=Yy X.prog X.w) (by rw [lv3]; exact st3) hm3 ex λ key h' hkey st' sb=>?_)
    rw [lv3] at st'
    obtain ⟨t,rfl⟩:=Zzy hkey
    have I4:Inv X pins σ3 H3 { s3 with heap:=h' }:=I3.turned (t':=s3.toks) (λ b o hb q=>(sb.2 b hb).trans q) f0 f1 f3 f4 f5
    obtain ⟨o',e',cc',d'⟩:=id st'
    refine wpAny_passesOwn hp (Zk0 (s:={ s3 with heap:=h' }) e' cc' d' (by decide) ?_)
    have one:∀ b∈[s1.heap.objs.size],b=s1.heap.objs.size:=λ b q=>by simpa using q
    have I5:=I4.pinned (fp:=[s1.heap.objs.size]) (λ b q=>by rw [one b q]; exact fit fr3) (λ b q=>by rw [one b q]; exact ⟨o',e',λ v q=>by rw [d'] at q; cases q⟩)
    refine wpAny_passesOwn hp (thn (hg _ _ σ3 H3 (.str x) _ _ I5 ⟨t,rfl⟩ step) λ _ s6 ⟨σ6,H6,I6,q6⟩=>?_)
    refine wpAny_passesOwn hp (thn (hb _ s6 σ6 H6 _ I6 q6) λ f s7 q7=>?_)
    have again:∀ {σ7:St} {H7:Hp},Inv X (pins++Zcm [s1.heap.objs.size] h') σ7 H7 s7->N σ7 H7->∃ m,m<n/\∃ i σ' H',Inv X pins σ' H' s7/\s7.heap.IsKeyIter s1.heap.objs.size d i ks.length ep/\H' s1.heap.objs.size=none/\W i m σ' H':=λ {σ7 H7} I7 n7=>by
     obtain ⟨m',hm',w7⟩:=hN σ7 H7 n7
     have pn:=I7.pin (s1.heap.objs.size,o') (List.mem_append_right _ (List.mem_append_right _ (Ww (by simp) e')))
     exact ⟨m',hm',i+1,σ7,H7,I7.unpinned,⟨o',pn.1,cc',d'⟩,pn.2.1,w7⟩
    cases f with
    | next=>obtain ⟨σ7,H7,I7,n7⟩:=q7; exact again I7 n7
    | cont=>obtain ⟨σ7,H7,I7,n7⟩:=q7; exact again I7 n7
    | brk=>obtain ⟨σ7,H7,I7,q7⟩:=q7; exact ⟨σ7,H7,I7.unpinned,q7⟩
    | ret v=>obtain ⟨x7,σ7,H7,I7,r7,q7⟩:=q7; exact ⟨x7,σ7,H7,I7.unpinned,r7,q7⟩
 refine thn main λ f s' q=>?_
 cases f with
 | next=>obtain ⟨σ',H',I',e,q⟩:=q; exact ⟨σ',_,I'.thaw e nf,q⟩
 | brk=>obtain ⟨σ',H',I',e,q⟩:=q; exact ⟨σ',_,I'.thaw e nf,q⟩
 | cont=>obtain ⟨σ',H',I',e,q⟩:=q; exact ⟨σ',_,I'.thaw e nf,q⟩
 | ret u=>obtain ⟨v,σ',H',I',r,e,q⟩:=q; exact ⟨v,σ',_,I'.thaw e nf,r,q⟩
theorem Z1n {e:Addr} {j:Nat} {g:TG} {tb:TS} {D:Ends} {σ:St} {H:Hp} {d:Addr} {kvs:List (Key×V)} {ks:List Str} (hσ:σ[j]?=some (some (.ref d))) (hd:H d=some (.dK kvs)) (hk:kvs.map (·.1)=ks.map Sum.inr) (Pv:Obj->Nat->St->Hp->Prop)
 (h0:∀ o,Pv o 0 σ (upd H d (.frz o (.dK kvs)))) (hl:∀ o i σ H,Pv o i σ H->H d=some (.frz o (.dK kvs))/\∃ C,H e=some (.ext (ExPc e C)))
 (hs:∀ o i x σ H,ks[i]?=some x->Pv o i σ H->g (.str x) σ H λ σ2 H2=>tb { D.held d o kvs with nx:=Pv o (i+1),ct:=Pv o (i+1),bk:=(D.held d o kvs).nx } σ2 H2)
 (he:∀ o σ H,Pv o ks.length σ H->D.nx σ (upd H d (.dK kvs))):Zov e j g tb D σ H:=by
 refine ⟨d,kvs,ks,hσ,hd,hk,λ o=>⟨λ i m σ H=>m=ks.length-i/\i<=ks.length/\Pv o i σ H,⟨ks.length,by simp,Nat.zero_le _,h0 o⟩,?_⟩⟩
 rintro i m σ H ⟨rfl,hi,p⟩
 obtain ⟨q1,q2⟩:=hl o i σ H p
 refine ⟨q1,q2,?_⟩
 by_cases hlt:i<ks.length
 · exact .inr ⟨ks[i],List.getElem?_eq_getElem hlt,Pv o (i+1),λ σ' H' p'=>⟨ks.length-(i+1),by omega,rfl,hlt,p'⟩,hs o i _ σ H (List.getElem?_eq_getElem hlt) p⟩
 · have z:i=ks.length:=by omega
   subst z
   exact .inl ⟨Nat.le_refl _,q1,he o σ H p⟩
theorem Flown.caughtC {X:Cx} {pins:List (Addr×Obj)} {σ:St} {H1 H2:Hp} {s1 s':Shared} {e C:Addr} {B:Heap} {a0:Value} (I1:Inv X pins σ H1 s1) (F:Flown X.prog X.w X.base X.stack H1 s1 s' e (.ref C) H2 B a0) (hL:X.env.locals∈frs X.stack) {h5:Heap}
 (fl:Heap.FlyingW B X.stack e (.ref C) a0 h5) (cn:CtxN e h5) (up:s'.heap.UpToSlots h5):Inv X pins σ (upd H2 e (.ext (ExPc e C))) { s' with heap:=h5 }:=by
 have c:=F.caught I1 hL fl up
 have ob:=(show ObjOk X.prog X.w _ h5 e (.ext (ExP e C)) from c.trk.hok e _ Zr)
 obtain ⟨o,a,b⟩:=ob.1
 obtain ⟨o',vs,q1,q2,q3⟩:=cn
 rw [a] at q1
 cases q1
 have I2:=c.trk.write (h':=h5) (t':=s'.toks) (x:=e) (e:=e) (o:=.ext (ExPc e C)) (by rw [Zr]; trivial) (.inl rfl) (λ _ _ _ q=>q) ⟨o,a⟩
  ⟨⟨o,a,b,vs,q2,q3⟩,⟨o,a⟩,λ g1 g2 ⟨o,a,b⟩ k=>⟨o,k o a,b⟩⟩
 rw [Zec] at I2
 exact I2
section
variable {X:Cx} {k:Nat} {g x n:Str} {ps:List Str} {sp:Sp} {p np cpos epos hpos pos:Pos} {e:Expr} {es:List Expr} {t:TA} {ts:Addr->TS} {D:Addr} {b₀:Stmt} {suite:List Stmt} {i:Nat}
end
end L2
namespace L2
open PySem PySem.Spec PySem.W PyProof.Rows
theorem Z0r {P:Program} {w:World} {k:Key} {u:Value} (h:(Yy P w).is k u=true):RelV (kV k) u:=by
 rw [Zkq] at h
 rcases Qk h with ⟨i,t,rfl,rfl⟩ | ⟨x,t,rfl,rfl⟩
 · exact ⟨t,rfl⟩
 · exact ⟨t,rfl⟩
theorem Znj {P:Program} {w:World}:∀ {ks:List Key} {us:List Value},us.length=ks.length->(∀ (j:Nat) (u:Value),us[j]?=some u->∃ k,ks[j]?=some k/\(Yy P w).is k u=true)->Vals (ks.map kV) us
 | [],[],_,_=>.nil
 | [],_::_,h,_=>by simp at h
 | _::_,[],h,_=>by simp at h
 | k::ks,u::us,h,f=>by
   obtain ⟨k',e,z⟩:=f 0 u rfl
   have e':k=k':=by simpa using e
   subst e'
   exact .cons (Z0r z) (Znj (by simpa using h) λ j v q=>by simpa using f (j+1) v (by simpa using q))
section
variable {X:Cx}
def Zqb:List V->Hp->VK->Prop:=λ xs H Q=>∃ (a:Addr) (kvs:List (Key×V)),xs=[.ref a]/\Rd H a (.dK kvs)/\∀ p,H p=none->Q (.ref p) (upd H p (.lst (kvs.map λ kv=>kV kv.1)))
theorem Zus (hc:X.calm=true):CallR X (.type "list") Zqb:=by
 intro pins s σ H xs us Q I r h
 obtain ⟨a,kvs,rfl,ha,q⟩:=h
 obtain ⟨u,rfl,rx⟩:=U4 r
 cases rx
 obtain ⟨hz,hsys,vs,kv,hd⟩:=Za5 I.hok ha
 obtain ⟨ep,hat⟩:=hd.dictAt
 refine kdl_call (kdl_dict (knd:=Yy X.prog X.w) (kvs:=vs) (ep:=ep) hsys) (I.ok.hd hc) hat (by rw [← kv.length]; exact hz) λ h' tk acc c hk hD hacc=>?_
 have hn:H s.heap.objs.size=none:=I.hok.fresh (Nat.le_refl _)
 refine ⟨.ref s.heap.objs.size,_,I.laid (o:=.lst (kvs.map λ kv=>kV kv.1)) (t':=tk) hk (Nat.le_refl _) ⟨by rw [List.length_map]; exact hz,acc.toList,c,?_,by rw [Array.toArray_toList]; exact hD⟩,rfl,q _ hn⟩
 have e:(kvs.map λ kv=>kV kv.1)=(vs.map (·.1)).map kV:=by rw [← kv.keys,List.map_map]; rfl
 rw [e]
 refine Znj (P:=X.prog) (w:=X.w) (by rw [Array.length_toList,List.length_map]; exact hacc.1) λ j u hu=>?_
 obtain ⟨k,x,e1,e2⟩:=hacc.2 j u (by rw [← Array.getElem?_toList]; exact hu)
 exact ⟨k,by rw [List.getElem?_map,e1]; rfl,e2⟩
theorem Zzr {H:Hp} {Q:VK} {a:Addr} {kvs:List (Key×V)} (h:H a=some (.dK kvs)) (q:∀ p,H p=none->Q (.ref p) (upd H p (.lst (kvs.map λ kv=>kV kv.1)))):Zqb [.ref a] H Q:=⟨a,kvs,rfl,.inl h,q⟩
def VwP (v d:Addr):Heap->Prop:=λ h=>h.IsValuesView v d
def Zgx (td:TE):TE:=λ σ H Q=>td σ H λ x H1=>∃ a kvs,x=.ref a/\H1 a=some (.dK kvs)/\∀ p,H1 p=none->Q (.ref p) (upd H1 p (.ext (VwP p a)))
theorem Zqj {o:Expr} {td:TE} {apos cpos:Pos} (ho:PE X o td) (hbase:attributeBase o "values" X.env (eval o X.env)=eval o X.env:=by rfl) (hline:(apos.endLine == cpos.line)=true:=by rfl) :
 PE X (.Call (.Attribute o "values" apos) [] [] cpos) (Zgx td):=by
 intro pins s σ H Q I h
 refine wpAny_Call_method0_late hbase hline (thn (ho pins s σ H _ I h) λ v s1 ⟨x,H1,I1,r1,a,kvs,ex,ha,q⟩=>?_)
 subst ex
 cases r1
 obtain ⟨t1,t2,hsys⟩:=Zwk I1 (.inl ⟨kvs,.inl ha⟩)
 obtain ⟨_,_,vs,kv,hd⟩:=Za5 I1.hok (.inl ha)
 refine ⟨"dict","dict.values",PySem.F.plainAttrs_dict,PySem.F.slot_dict_values,PySem.F.type_dict_values,t1,t2,Calls.callWith_builtin rfl (PySem.evalArgs_none ?_)⟩
 refine call_meetsIn PySem.F.slot_dict_values t1 PySem.F.entry_dict_values (PySem.F.args_dict_values_1 _) (meets_dict_values (Yy X.prog X.w) a hsys) ⟨⟨vs,hd⟩,?_⟩
 have hn:H1 s1.heap.objs.size=none:=I1.hok.fresh (Nat.le_refl _)
 refine ⟨.ref s1.heap.objs.size,_,I1.laid (o:=.ext (VwP s1.heap.objs.size a)) (t':=s1.toks) (λ b o e=>Heap.get?_push_of_some _ e) (Nat.le_refl _) ⟨⟨_,Heap.get?_push_size _ rfl,rfl,rfl⟩,⟨_,Heap.get?_push_size _ rfl⟩,λ g1 g2 ⟨o,e,c⟩ k=>⟨o,k o e,c⟩⟩,rfl,q _ hn⟩
theorem Zlg {A:Around} {E:Value->Shared->Prop} {s:Shared} {prog:Program} {w:World} {T:String} {r d:Addr} {n:Nat} {P:Nat->Value->Prop} {OK:Heap->Prop} {Q₁:Value->Shared->Prop} (K:KdlSrc prog w T r d n P OK) (hh:A.handled=none) (hok:OK s.heap) (hn:n<=sizeLine)
 (h:∀ (h':Heap) (tk:Nat) (acc:Array Value),(∀ b o,s.heap.get? b=some o->h'.get? b=some o)->ItemsOf P acc n->Q₁ (.ref h'.objs.size) { s with heap:=h'.push { cls:=.type "tuple",data:=.seq acc },toks:=tk }) :
 codeAny (model prog w) A (.call (.builtin "tuple.__new__") ⟨[.type "tuple",.ref r],[]⟩) (wants Q₁ E) s:=by
 refine codeAny_of_tree ?_
 show wpAny _ A.in1 (do checkBuiltinCall "tuple.__new__" ⟨[.type "tuple",.ref r],[]⟩; again (.builtin "tuple.__new__" ⟨[.type "tuple",.ref r],[]⟩)) _ _ s
 refine wpAny_bind (wpAny_of_eq (PySem.F.newCall_tuple_1 _) (wpAny_pure ⟨plainId_quiet PySem.F.plain_tuple_new _,codeAny_builtin PySem.F.entry_tuple_new ?_⟩))
 rw [Around.under_plainId PySem.F.plain_tuple_new _]
 have h1:=sub_tuple_self
 have h2:=init_tuple_lookup
 have h3:=madeHere_tuple
 have hTI:=K.type s hok
 have nt:=K.notTuple
 have nl:=K.notList
 wp_walk using wpAny_typeOf hTI,kdu_collect (A:=A.in1) K hh hok hn
 intro h' tk acc hk hacc
 rw [Array.toArray_toList]
 show wpAny _ _ (Builtin.Tuple.tupleExact acc >>= λ v=>ret v) _ _ _
 unfold Builtin.Tuple.tupleExact
 exact wpAny_bind (wpAny_newObj_type (wpAny_pure (h h' tk acc hk hacc)) (by show acc.size<=sizeLine; rw [hacc.1]; exact hn))
theorem Zlj {A:Around} {E:Value->Shared->Prop} {s:Shared} {prog:Program} {w:World} {T:String} {r d:Addr} {n:Nat} {P:Nat->Value->Prop} {OK:Heap->Prop} {Q:Value->Shared->Prop} (K:KdlSrc prog w T r d n P OK) (hh:A.handled=none) (hok:OK s.heap) (hn:n<=sizeLine)
 (h:∀ (h':Heap) (tk:Nat) (acc:Array Value),(∀ b o,s.heap.get? b=some o->h'.get? b=some o)->ItemsOf P acc n->Q (.ref h'.objs.size) { s with heap:=h'.push { cls:=.type "tuple",data:=.seq acc },toks:=tk }) :
 wpAny (model prog w) A (call (.type "tuple") [.ref r]) Q E s:=by
 refine callType_codes (Q₁:=λ obj s₁=>s₁.TypeIs obj "tuple"/\Q obj s₁) PySem.F.called_tuple (PySem.F.typeCall_tuple_1 _) PySem.F.entry_object_init
  (Zlg (A:=A.in1) K hh hok hn λ h' tk acc hk hacc=>⟨⟨_,Heap.get?_push_size _ rfl,rfl⟩,h h' tk acc hk hacc⟩) λ obj s₁ z=>?_
 exact ⟨z.1,PySem.F.args_object_init_2 obj _,object_init_meets PySem.F.called_tuple.init.lookup PySem.F.called_tuple.made (by decide) prog w A.in1 _ s₁ ⟨z.1,rfl,z.2⟩⟩
def Zkf:List V->Hp->VK->Prop:=λ xs H Q=>∃ (v a:Addr) (kvs:List (Key×V)),xs=[.ref v]/\H v=some (.ext (VwP v a))/\H a=some (.dK kvs)/\∀ p,H p=none->Q (.ref p) (upd H p (.tup (kvs.map (·.2))))
theorem Zig:∀ {kvs:List (Key×V)} {vs:List (Key×Value)},KV kvs vs->Vals (kvs.map (·.2)) (vs.map (·.2))
 | _,_,.nil=>.nil
 | _,_,.cons r t=>.cons r.2 (Zig t)
theorem Znm (hc:X.calm=true):CallR X (.type "tuple") Zkf:=by
 intro pins s σ H xs us Q I r h
 obtain ⟨v,a,kvs,rfl,hv,ha,q⟩:=h
 obtain ⟨u,rfl,rx⟩:=U4 r
 cases rx
 obtain ⟨hz,hsys,vs,kv,hd⟩:=Zlb I.hok ha
 obtain ⟨ep,hat⟩:=hd.dictAt
 have hvw:=(show ObjOk X.prog X.w H s.heap v (.ext (VwP v a)) from I.hok v _ hv).1
 refine Zlj (kdl_values (knd:=Yy X.prog X.w) (r:=v) (d:=a) (kvs:=vs) (ep:=ep)) (I.ok.hd hc) ⟨hvw,hat⟩ (by rw [← kv.length]; exact hz) λ h' tk acc hk hacc=>?_
 have I':Inv X pins σ H { s with heap:=h',toks:=tk }:=I.kept hk
 have hn:H h'.objs.size=none:=I'.hok.fresh (Nat.le_refl _)
 have e:acc.toList=vs.map (·.2):=kdl_vals_eq acc.toList (by rw [Array.length_toList]; exact hacc.1) λ j v e=>hacc.2 j v (by rw [← Array.getElem?_toList]; exact e)
 refine ⟨.ref h'.objs.size,_,I'.laid (o:=.tup (kvs.map (·.2))) (t':=tk) (λ b o e=>Heap.get?_push_of_some _ e) (Nat.le_refl _) ⟨by rw [List.length_map]; exact hz,vs.map (·.2),Zig kv,?_⟩,rfl,q _ hn⟩
 rw [← e,Array.toArray_toList]
 exact IsTup.new h' acc
theorem Z1h {H:Hp} {Q:VK} {v a:Addr} {kvs:List (Key×V)} (hv:H v=some (.ext (VwP v a))) (h:H a=some (.dK kvs)) (q:∀ p,H p=none->Q (.ref p) (upd H p (.tup (kvs.map (·.2))))):Zkf [.ref v] H Q:=⟨v,a,kvs,rfl,hv,h,q⟩
def Zmk:V->List V->Hp->VK->Prop:=λ x vs H Q=>∃ (l:Addr) (ks:List Str) (y:Str) (j:Nat),x=.ref l/\vs=[.str y]/\H l=some (.lst (ks.map V.str))/\ks[j]?=some y/\(∀ i,i<j->ks[i]?≠some y)/\Q (.int (j:Nat)) H
theorem Zv6:MtM X "list.index" Zmk:=by
 intro pins s σ H x vs v us Q I rx rv h
 obtain ⟨l,ks,y,j,rfl,rfl,hH,hj,hno,q⟩:=h
 cases rx
 obtain ⟨u,rfl,ru⟩:=rv.one
 obtain ⟨t,rfl⟩:=ru
 obtain ⟨z,its,n,r,hl,e⟩:=I.lstM hH
 have at_:∀ m (hm:m<its.toArray.size),∃ x t',ks[m]?=some x/\its.toArray[m]=Value.str x t':=λ m hm=>by
  have hm':m<its.length:=by simpa using hm
  have hk:m<ks.length:=by rw [List.length_map] at hl; omega
  obtain ⟨u,e1,t',e2⟩:=r.get (i:=m) (x:=.str ks[m]) (by simp [hk])
  have e3:its[m]=u:=by rw [List.getElem?_eq_getElem hm'] at e1; exact Option.some.inj e1
  exact ⟨ks[m],t',List.getElem?_eq_getElem hk,by simp [e3,e2]⟩
 let f:Value->Bool:=λ v=>match v with | .str a _=>a.cps.toList == y.cps.toList | _=>false
 have jl:j<its.toArray.size:=by
  have:=(List.getElem?_eq_some_iff.mp hj).1
  rw [List.length_map] at hl
  simp; omega
 rw [sizeLine_eq] at z
 rw [List.length_map] at z hl
 refine call_meets PySem.F.slot_list_index ⟨_,e,rfl⟩ PySem.F.entry_list_index (PySem.F.args_list_index_2 _ _) (MeetsSeq.list_index l its.toArray n (.str y t) f (λ v hv=>?_) j jl (by simp at jl; omega) ?_ (λ m hm hlt=>?_)) ⟨e,⟨.int (j:Nat),H,I.tok _,⟨_,rfl⟩,q⟩⟩
 · obtain ⟨m,hm,em⟩:=Array.mem_iff_getElem.mp hv
   obtain ⟨x,t',_,e2⟩:=at_ m hm
   rw [← em,e2]
   exact SeqRoads2.EqGives.str x y t' t
 · obtain ⟨x,t',e1,e2⟩:=at_ j jl
   rw [hj] at e1
   cases e1
   rw [e2]
   show (y.cps.toList == y.cps.toList)=true
   simp
 · obtain ⟨x,t',e1,e2⟩:=at_ m hm
   rw [e2]
   show (x.cps.toList == y.cps.toList)=false
   have ne:x≠y:=λ q=>hno m hlt (by rw [e1,q])
   rw [beq_eq_false_iff_ne]
   intro q
   apply ne
   cases x; cases y
   congr
   exact Array.toList_inj.mp q
theorem Zxm {H:Hp} {Q:VK} {l:Addr} {ks:List Str} {y:Str} {j:Nat} (h:H l=some (.lst (ks.map V.str))) (hj:ks[j]?=some y) (hno:∀ i,i<j->ks[i]?≠some y) (q:Q (.int (j:Nat)) H):Zmk (.ref l) [.str y] H Q:=⟨l,ks,y,j,rfl,rfl,h,hj,hno,q⟩
theorem Qi {CX:CXT} {k:Nat} {C:Addr} {ps:List Str} {sp:Sp} {E:XK} {x m:Str} {pos apos:Pos} {e o:Expr} {es:List Expr} {ta:TE} {t:TA} {pl:Sem Bool} (c:Own X.K X.mg x C) (G:FnM X.prog X.w X.K X.mg X.base CX C m k ps sp) (hr:Room k X.A) (hx:Passes CX X E) (he:PE X o ta) (ha:PB X (e::es) t)
 (hst:Yp e=false:=by rfl) (hpl:es.all (λ e=>!Yp e)=true:=by rfl)
 (ht:eval (.Call (.Attribute o m apos) (e::es) [] pos) X.env=(do
  let ov ← eval o X.env
  standAt apos.atName
  let (f,first) ← holding [ov] (getMethod ov m pl)
  callWith pos f first (backTo pos (starEach (e::es) X.env)) (backToKw pos (keywordEach [] X.env))):=by rfl) :
 PE X (.Call (.Attribute o m apos) (e::es) [] pos) (Yw C m sp [] E ta t):=by
 obtain ⟨f,fd,F,hm,hb⟩:=G
 exact Z0a (pl:=pl) he c.cl hm F hr hb .nil hx ha.ok (Yq hst) (Wf hpl) ht
theorem Zji {CX:CXT} {k:Nat} {C:Addr} {ps:List Str} {sp:Sp} {E:XK} {x:Str} {p pos:Pos} (c:Own X.K X.mg x C) (G:FnM X.prog X.w X.K X.mg X.base CX C "__init__" k ps sp) (hr:Room (k+1) X.A) (hg:Gl X x) (hx:Passes CX X E)
 (hdb:(x == ("__debug__":Str))=false:=by decide):PE X (.Call (.Name x p) [] [] pos) (Zfd C sp [] E Zg):=by
 obtain ⟨f,fd,F,hm,hb⟩:=G
 exact Zx5 ⟨c.mks,hm.at_,hm.fn,c.kp⟩ F hr hg c.bound hb .nil hx hdb
def spNo:Sp:=λ _ _ _ _=>False
theorem FnOk.no {P:Program} {w:World} {K:Frag} {mg:Str->Option Value} {base:Heap} {CX:CXT} {k:Nat} {f:Addr} {fd:FuncData} {ps:List Str}:FnOk P w K mg base CX k f fd ps spNo:=⟨λ _ _ _ _ h=>h.elim,λ _ _ _ _ _ _ _ _ _ _ _ _ _ h=>h.elim⟩
end
end L2
namespace L2
open PySem PySem.Spec PyProof.Rows
structure FunD (K:Fq) (x qual:Str) (st:Stmt) (f:Addr) (fd:FuncData) (T:Addr):Prop where
 ex:∃ (oc:Value) (od:Option Addr) (kV doc pm:Value) (an:Option Addr) (cdv ct:Value) (osl:Array (Option Value)),
  fd=PySem.W.fnOf x qual (Qy st) (Xw st) (Zq st) (.ref T) kV doc pm an cdv ct/\K.lookup f=some ⟨oc,od,.func fd,osl⟩/\PySem.W.codeIn K cdv qual=true
 tup:∃ (oc:Value) (od:Option Addr) (n:Nat) (osl:Array (Option Value)),K.lookup T=some ⟨oc,od,.seq #[Value.none] n,osl⟩
 kp:PySem.W.keepIn K (.ref f)=true
section
variable {P:Program} {w:World} {K:Fq} {mg:Str->Option Value} {base:Heap}
end
section
variable {X:Cx} {e:Expr} {es:List Expr} {t:TA} {p pos:Pos} {x:Str} {k:Nat} {ps:List Str} {sp:Sp} {CX:CXT} {E:XK}
end
end L2
namespace PyProof.Rows
open PySem
section
variable {prog:Program} {w:World} {A:Around} {E:Value->Shared->Prop} {s:Shared}
theorem draw_list {it l:Addr} {items:Array Value} (hne:l≠it):∀ (n i:Nat) (s:Shared) (Q:List Value->Shared->Prop),s.heap.IsListIter it l i->s.heap.IsList l items->i+n<=items.size ->
 (∀ h',h'.IsListIter it l (i+n)->Heap.SameBut it s.heap h'->Q ((items.toList.drop i).take n) { s with heap:=h' })->wpAny (model prog w) A (draw (.ref it) n) Q E s
 | 0,i,s,Q,hit,_,_,hQ=>by
   show wpAny _ _ (pure []) Q E s
   exact wpAny_pure (by simpa using hQ s.heap hit (Heap.SameBut.refl ..))
 | n+1,i,s,Q,hit,ht,hle,hQ=>by
   have hlt:i<items.size:=by omega
   show wpAny _ _ (pyNext (.ref it) >>= _) Q E s
   refine wpAny_bind (wpAny_pyNext_list_item hit ht (x:=items[i]) (by simp [hlt]) λ h₁ hit₁ hs₁=>?_)
   refine wpAny_bind (wpAny_holding (draw_list hne n (i+1) _ _ hit₁ (ht.at λ o e=>(hs₁.2 l hne).trans e) (by omega) λ h₂ hit₂ hs₂=>wpAny_pure ?_))
   have hd:items.toList.drop i=items[i]::items.toList.drop (i+1):=by simp [List.drop_eq_getElem_cons,hlt]
   have:=hQ h₂ (by rw [show i+(n+1)=i+1+n by omega]; exact hit₂) (hs₁.trans hs₂)
   rw [hd,List.take_succ_cons] at this
   exact this
theorem unpackItems_list {l:Addr} {items:Array Value} {Q:List Value->Shared->Prop} (hh:A.handled=none) (ht:s.heap.IsList l items)
 (hQ:∀ h',Heap.ExtBut s.heap.objs.size s.heap h'->Q items.toList { s with heap:=h' }):wpAny (model prog w) A (unpackItems (.ref l) items.size none) Q E s:=by
 have hlt:l≠s.heap.objs.size:=by obtain ⟨o,ho,_⟩:=ht; exact Nat.ne_of_lt (Heap.lt_size ho)
 unfold unpackItems
 refine wpAny_bind ?_
 · unfold notIterableAtAll
   refine wpAny_bind (wpAny_specialOf ht.typeIs slot_list_iter.lookup ?_)
   refine wpAny_pure ?_
   simp only [Bool.false_eq_true,if_false]
   refine wpAny_bind (wpAny_holding (wpAny_pyIter_list ht ?_))
   refine wpAny_bind (wpAny_holding (draw_list hlt items.size 0 _ _ ⟨_,Heap.get?_push_size _ rfl,rfl,rfl⟩ (ht.push _) (by omega) λ h₁ hit₁ hs₁=>?_))
   have hall:List.take items.size (List.drop 0 items.toList)=items.toList:=by
    rw [List.drop_zero]; exact List.take_of_length_le (by simp)
   rw [hall]
   rw [if_neg (by simp)]
   have ht₁:h₁.IsList l items:=(ht.push _).at λ o e=>(hs₁.2 l hlt).trans e
   refine wpAny_bind (wpAny_holding (wpAny_pyNext_list_end hh hit₁ ht₁ (by simp) λ h₂ he₂=>?_))
   simp only [Option.isSome_none,Bool.false_eq_true,if_false]
   refine wpAny_pure (hQ h₂ λ b o hb e=>he₂ b o hb (hs₁.extBut b o hb (Heap.get?_push_of_some _ e)))
theorem assign_Tuple_list {env:Env} {elts:List Expr} {x1} {pos:Pos} {l:Addr} {items:Array Value} {Q:Unit->Shared->Prop} (hh:A.handled=none) (ht:s.heap.IsList l items)
 (hn:(assignEach elts env).length=items.size) (hstar:(assignEach elts env).findIdx? (·.1)=none)
 (h:∀ h',Heap.ExtBut s.heap.objs.size s.heap h'->wpAny (model prog w) A (assignInOrder ((assignEach elts env).map (·.2)) items.toList) Q E { s with heap:=h' }) :
 wpAny (model prog w) A (assign (.Tuple elts x1 pos) env (.ref l)) Q E s:=by
 rw [assign_Tuple]
 refine wpAny_bind (wpAny_standAt ?_)
 unfold unpack
 rw [hn,hstar]
 exact wpAny_bind (wpAny_holding (unpackItems_list hh ht h))
end
end PyProof.Rows
namespace L2
open PySem PySem.Spec PyProof.Rows
def Zuh (K:Fq) (n:Nat) (t:TGs):TG:=λ v σ H Q=>∃ a xs,v=.ref a/\SqL K H a xs/\xs.length=n/\t xs σ H Q
theorem Zz9 {X:Cx} {pos:Pos} {es:List Expr} {k:Nat} {t:TGs} {n:Nat} (hc:X.calm=true) (h:PGs X es t)
 (hn:(assignEach es X.env).length=n:=by rfl) (hst:(assignEach es X.env).findIdx? (·.1)=none:=by rfl):PG X (.Tuple es k pos) (Zuh X.K n t):=by
 intro pins s σ H v u Q I r hw
 obtain ⟨a,xs,e1,hq,hl,hw⟩:=hw
 subst e1
 cases r
 obtain ⟨its,rv,ht,hz⟩:=I.list hq
 refine assign_Tuple_list (I.ok.hd hc) ht.isList (by simp [hn,← hl,rv.length]) hst λ h' hx=>?_
 have I1:Inv X pins σ H { s with heap:=h' }:=I.kept (t':=s.toks) λ b o e=>hx b o (Nat.ne_of_lt (Heap.lt_size e)) e
 exact h pins _ σ H xs _ Q I1 (by simpa using rv) hw
theorem Zzs {K:Fq} {H:Hp} {σ:St} {p:Addr} {xs:List V} {n:Nat} {t:TGs} {R:St->Hp->Prop} (e:SqL K H p xs) (hn:xs.length=n) (h:t xs σ H R):Zuh K n t (.ref p) σ H R:=⟨p,xs,rfl,e,hn,h⟩
end L2
namespace L2
open PySem PySem.Spec PyProof.Rows
def Itzm (K:Fq) (a1 a2:Addr):It :=
 ⟨λ i H=>∃ xs ys x y,SqL K H a1 xs/\SqT K H a2 ys/\xs[i]?=some x/\ys[i]?=some y,
  λ i H v H'=>∃ p x y,H p=none/\v=.ref p/\(∀ xs,SqL K H a1 xs->xs[i]?=some x)/\(∀ ys,SqT K H a2 ys->ys[i]?=some y)/\H'=upd H p (.tup [x,y]),
  λ i H=>∃ xs ys,SqL K H a1 xs/\SqT K H a2 ys/\(xs.length<=i\/ys.length<=i)⟩
def Tnzm (z TI TO i1 i2 l1 l2:Addr) (i:Nat) (h:Heap):Prop:=IsZip h z TI TO .none/\IsPair h TI (.ref i1) (.ref i2)/\(∃ a b,IsPair h TO a b)/\ItB false h i1 l1 i/\ItB true h i2 l2 i
theorem Zvb {P:Program} {w:World} {K:Fq} {elts:List Expr} {x1} {pos:Pos} {z TI TO i1 i2 l1 l2:Addr} (D:Apz z TI TO i1 i2) (n1:∀ c∈[z,TO,i1,i2],l1≠c/\l2≠c) :
 Turn P w K (.Tuple elts x1 pos) (Itzm K l1 l2) [z,TI,TO,i1,i2] z (Tnzm z TI TO i1 i2 l1 l2) where
 mem:=by simp
 obj:=λ i h st b hb=>by
  obtain ⟨q1,q2,⟨a,b',q3⟩,q4,q5⟩:=st
  have hb':b=z\/b=TI\/b=TO\/b=i1\/b=i2:=by simpa using hb
  rcases hb' with e | e | e | e | e <;> subst e
  · exact ⟨_,q1,λ v z=>by cases z⟩
  · exact ⟨_,q2,λ v z=>by cases z⟩
  · exact ⟨_,q3,λ v z=>by cases z⟩
  · exact q4.ob
  · exact q5.ob
 keep:=λ i h h' st k=>by
  obtain ⟨q1,q2,⟨a,b',q3⟩,q4,q5⟩:=st
  exact ⟨k z (by simp) _ q1,k TI (by simp) _ q2,⟨a,b',k TO (by simp) _ q3⟩,q4.at λ o e=>k i1 (by simp) o e,q5.at λ o e=>k i2 (by simp) o e⟩
 item:=by
  intro X hP hw hK hc i pins s σ H E I hf st hg
  subst hP hw hK
  obtain ⟨xs,ys,x,y,h1,h2,hx,hy⟩:=hg
  obtain ⟨its,rv,p,hz⟩:=I.list h1
  obtain ⟨jts,rv',p',hz'⟩:=I.tuple h2
  obtain ⟨u,hu,ru⟩:=rv.get hx
  obtain ⟨u',hu',ru'⟩:=rv'.get hy
  obtain ⟨q1,q2,⟨a,b,q3⟩,q4,q5⟩:=st
  refine Zo2 D q1 q2 q3 q4 q5 p.isList (show s.heap.IsTuple l2 jts.toArray from p') n1 (x:=u) (y:=u') (by simpa using hu) (by simpa using hu') λ h' a1 a2 a3 a4 a5 a6 kk=>?_
  have lt:∀ {c o},s.heap.get? c=some o->s.heap.objs.size≠c:=λ e=>Nat.ne_of_gt (Heap.lt_size e)
  refine ⟨_,rfl,wpAny_letOwnedTupleGo_zip a1 λ hh2 z2 s2=>?_⟩
  have kk2:∀ c o,c ∉ [z,TI,TO,i1,i2]->s.heap.get? c=some o->hh2.get? c=some o:=λ c o hc e =>
   s2.extBut _ _ (λ x=>hc (by simp [x])) (kk c o (λ x=>hc (by simp [x])) (λ x=>hc (by simp [x])) (λ x=>hc (by simp [x])) (λ x=>hc (by simp [x])) e)
  have I1:Inv X pins σ H { s with heap:=hh2 }:=I.turnedN (t':=s.toks) kk2 hf
  have T2:IsPair hh2 s.heap.objs.size u u':=s2.extBut _ _ (lt q1) a5
  have hn:H s.heap.objs.size=none:=I.hok.fresh (Nat.le_refl _)
  have fr:=I.fpOk (H':=H) (Nat.le_refl _) hn
  have I2:Inv X pins σ (upd H s.heap.objs.size (.tup [x,y])) { s with heap:=hh2 }:=by
   refine I1.track hn (λ b o q _ _=>?_) fr.2.1.symm fr.2.2.2.2.1 fr.2.2.2.2.2 ?_
   · exact Nat.ne_of_lt (Nat.lt_of_lt_of_le (Heap.lt_size q) I.sz)
   · exact ⟨by simp [sizeLine],[u,u'],.cons ru (.cons ru' .nil),⟨_,T2,rfl,_,rfl⟩⟩
  refine ⟨.ref s.heap.objs.size,_,I2,rfl,⟨_,x,y,hn,rfl,λ zs hzs=>?_,λ zs hzs=>?_,rfl⟩,?_,λ b hb=>?_⟩
  · rw [I.list_inj hzs h1]; exact hx
  · rw [I.tuple_inj hzs h2]; exact hy
  · exact ⟨z2,s2.extBut _ _ D.a1 (kk _ _ D.a1 D.a5 D.a6 D.a7 q2),⟨_,_,s2.extBut _ _ D.a2 a2⟩,a3.at λ o e=>s2.extBut _ _ D.a3 e,a4.at λ o e=>s2.extBut _ _ D.a4 e⟩
  · have e:b≠s.heap.objs.size:=by
     have hb':b=z\/b=TI\/b=TO\/b=i1\/b=i2:=by simpa using hb
     rcases hb' with e | e | e | e | e <;> subst e
     · exact (lt q1).symm
     · exact (lt q2).symm
     · exact (lt q3).symm
     · obtain ⟨o,e,_⟩:=q4.ob; exact (lt e).symm
     · obtain ⟨o,e,_⟩:=q5.ob; exact (lt e).symm
    rw [Z1 e]
    exact (hf b hb).1
 done:=by
  intro X hP hw hK hc i pins s σ H E I hf st hg
  subst hP hw hK
  obtain ⟨xs,ys,h1,h2,hx⟩:=hg
  obtain ⟨its,rv,p,hz⟩:=I.list h1
  obtain ⟨jts,rv',p',hz'⟩:=I.tuple h2
  have e1:=rv.length
  have e2:=rv'.length
  obtain ⟨q1,q2,⟨a,b,q3⟩,q4,q5⟩:=st
  refine Zo1 (I.ok.hd hc) D q1 q2 q3 q4 q5 p.isList (show s.heap.IsTuple l2 jts.toArray from p') n1 (by rcases hx with q | q; (· left; simp; omega); (· right; simp; omega)) λ h' kk=>⟨rfl,?_⟩
  exact I.turnedN (t':=s.toks) (λ c o hc e=>kk c o (λ x=>hc (by simp [x])) (λ x=>hc (by simp [x])) (λ x=>hc (by simp [x])) (λ x=>hc (by simp [x])) e) hf
 self:=λ _ _ _ _ _ st h=>wpAny_pyIter_zip st.1 h
section
variable {X:Cx}
def Zky (K:Fq) (ta:TA):TI:=λ σ H R=>ta σ H λ vs H1=>∃ a b,vs=[.ref a,.ref b]/\(∃ xs,SqL K H1 a xs)/\(∃ ys,SqT K H1 b ys)/\R (Itzm K a b) H1
theorem Zx4 {a b:Expr} {ta:TA} {p pos tpos:Pos} {elts:List Expr} {x1} (hg:Gl X "zip") (hm:X.mg "zip"=none) (ha:PA X [a,b] ta) (hs:starEach [a,b] X.env=[(false,eval a X.env),(false,eval b X.env)]:=by rfl) (hs2:starEach [b] X.env=[(false,eval b X.env)]:=by rfl) :
 PI X (.Tuple elts x1 tpos) (.Call (.Name "zip" p) [a,b] [] pos) (Zky X.K ta):=by
 intro pins s σ H R I h
 refine Call_ (Zet I hg hm Zro (PyProof.Rows.callWith_type1 (thn (ha pos pins s σ H _ I h) λ us s1 ⟨vs,H1,I1,r1,q1⟩=>?_) (by rw [hs,hs2]) (by rw [hs2]; rfl)))
 obtain ⟨l1,l2,e,⟨xs,h1⟩,⟨ys,h2⟩,q⟩:=q1
 subst e
 cases r1 with
 | cons r rr =>
   cases rr with
   | cons r' rr =>
     cases rr
     cases r
     cases r'
     obtain ⟨its,rv,p,hz⟩:=I1.list h1
     obtain ⟨jts,rv',p',hz'⟩:=I1.tuple h2
     have hl1:l1<s1.heap.objs.size:=by obtain ⟨o,e,_⟩:=p.isList; exact Heap.lt_size e
     have hl2:l2<s1.heap.objs.size:=by exact p'.lt
     refine Zo3 (b1:=false) (b2:=true) p.isList (show s1.heap.IsTuple l2 jts.toArray from p') λ h' a1 a2 a3 a4 a5 kk=>wpAny_pyIter_zip a1 ?_
     refine ⟨s1.heap.objs.size+4,_,_,_,H1,rfl,I1.kept (t':=s1.toks) kk,Zvb (Ztb s1.heap.objs.size) (l1:=l1) (l2:=l2) λ c hc=>?_,⟨a1,a2,⟨_,_,a3⟩,a4,a5⟩,λ b hb=>?_,q⟩
     · have hc':c=s1.heap.objs.size+4\/c=s1.heap.objs.size+3\/c=s1.heap.objs.size\/c=s1.heap.objs.size+1:=by simpa using hc
       have hle:s1.heap.objs.size<=c:=by rcases hc' with e | e | e | e <;> rw [e] <;> first | exact Nat.le_refl _ | exact Nat.le_add_right _ _
       exact ⟨Nat.ne_of_lt (Nat.lt_of_lt_of_le hl1 hle),Nat.ne_of_lt (Nat.lt_of_lt_of_le hl2 hle)⟩
     · have hb':b=s1.heap.objs.size+4\/b=s1.heap.objs.size+2\/b=s1.heap.objs.size+3\/b=s1.heap.objs.size\/b=s1.heap.objs.size+1:=by simpa using hb
       have hle:s1.heap.objs.size<=b:=by rcases hb' with e | e | e | e | e <;> rw [e] <;> first | exact Nat.le_refl _ | exact Nat.le_add_right _ _
       exact I1.fpOk hle (I1.hok.fresh hle)
theorem Zyn {a b:Expr} {ta:TA} {p pos tpos:Pos} {elts:List Expr} {x1} (hg:Gl X "zip") (hm:X.mg "zip"=none) (ha:PB X [a,b] ta) (he:Yp a=false:=by rfl) (hf:Yp b=false:=by rfl):PI X (.Tuple elts x1 tpos) (.Call (.Name "zip" p) [a,b] [] pos) (Zky X.K ta) :=
 Zx4 hg hm ha.ok (by rw [Yq he,Yq hf]; rfl) (by rw [Yq hf]; rfl)
end
theorem Zzq {K:Fq} {ta:TA} {σ:St} {H:Hp} {R:It->Hp->Prop} (h:ta σ H λ vs H1=>∃ a b,vs=[.ref a,.ref b]/\(∃ xs,SqL K H1 a xs)/\(∃ ys,SqT K H1 b ys)/\R (Itzm K a b) H1):Zky K ta σ H R:=h
section
open PySem.W
def Qg (K:Frag):List V->Hp->VK->Prop:=λ xs H Q=>∃ a C b,H a=some (.ext (ExPc a C))/\ExF K C/\Q (.bl b) H /\
 ((∃ T,xs=[.ref a,.ty T]/\kitOne K (.ref C) (.type T)=some b)\/(∃ D,xs=[.ref a,.ref D]/\kitOne K (.ref C) (.ref D)=some b)\/(∃ (tp:Addr) (cs:List Addr),xs=[.ref a,.ref tp]/\H tp=some (.tup (cs.map V.ref))/\kitAny K (.ref C) (cs.map Value.ref)=some b))
theorem Ju {X:Cx}:CallR X (.builtin "isinstance") (Qg X.K):=by
 intro pins s σ H xs us Q I r h
 obtain ⟨a,C,b,ea,Y,q,h⟩:=h
 have ob:=(show ObjOk X.prog X.w H s.heap a (.ext (ExPc a C)) from I.hok a _ ea).1.exp
 have fin:∀ tk,EP X pins σ Q (.bool b) { s with toks:=tk }:=λ tk=>⟨.bl b,H,I.tok tk,rfl,q⟩
 rcases h with ⟨T,rfl,e⟩ | ⟨D,rfl,e⟩ | ⟨tp,cs,rfl,et,e⟩
 · obtain ⟨u,w',rfl,rx,ry⟩:=Zos r
   cases ry
   cases (show u=Value.ref a from rx)
   exact kia_one (Zja Y) I.kIn ob e (λ z=>nomatch z) fin
 · obtain ⟨u,w',rfl,rx,ry⟩:=Zos r
   cases (show w'=Value.ref D from ry)
   cases (show u=Value.ref a from rx)
   exact kia_one (Zja Y) I.kIn ob e (λ z=>nomatch z) fin
 · obtain ⟨u,w',rfl,rx,ry⟩:=Zos r
   cases (show w'=Value.ref tp from ry)
   cases (show u=Value.ref a from rx)
   obtain ⟨its,rv,p,hz⟩:=I.tuple (SqT.of et)
   cases Zm8 rv
   obtain ⟨o,h1,h2,n,h3⟩:=p
   obtain ⟨oc,od,odt,osl⟩:=o
   cases h2
   cases h3
   exact kia_tup (Zja Y) I.kIn ob h1 e (λ z=>nomatch z) fin
end
section
variable {X:Cx} {k:Nat} {g x x2 x3 n:Str} {ps:List Str} {sp:Sp} {p np np2 np3 cpos epos hpos hpos2 hpos3 pos:Pos} {e:Expr} {es:List Expr} {t:TA} {ts ts2 ts3:TS} {D D2 D3:Addr} {b₀ b₂ b₃:Stmt} {suite suite2 suite3:List Stmt} {i:Nat}
end
def NoC (K:Fq) (mg:Str->Option Value) (x:Str):Prop:=∃ f,mg x=some (.ref f)/\PySem.W.keepIn K (.ref f)=true
theorem Zkn {K:Fq} {mg:Str->Option Value} {h:Heap} {x:Str} {f:Addr} (X:K.In h) (G:h.Ns mainGlobals mg) (a:PySem.W.nsIn K mainGlobals x=some (some (.ref f))) (k:PySem.W.keepIn K (.ref f)=true):NoC K mg x:=⟨f,PySem.W.mg_of X G a,k⟩
def Za8 (t:TA):TE:=λ σ H _=>t σ H λ _ _=>False
section
variable {X:Cx} {k:Nat} {x:Str} {p pos:Pos} {e:Expr} {es:List Expr} {t:TA}
theorem Zdb (N:NoC X.K X.mg x) (hg:Gl X x) (ha:PB X (e::es) t) (hdb:(x == ("__debug__":Str))=false:=by decide) (he:Yp e=false:=by rfl) (hpl:es.all (λ e=>!Yp e)=true:=by rfl):PE X (.Call (.Name x p) (e::es) [] pos) (Za8 t):=by
 intro pins s σ H Q I h
 obtain ⟨f,hm,hk⟩:=N
 refine wpAny_Call_Name_kw (Jy I hg hm ?_ hdb)
 exact PySem.W.callWith_K (h₀:=X.base) I.ok.mod.kin hk (thn (ha.ok pos pins s σ H _ I h) λ us s1 ⟨vs,H1,I1,r,q⟩=>q.elim) (Yq he) (Wf hpl)
end
def DfMD (K:Fq) (C:Addr) (m qual:Str) (st:Stmt):Prop:=∃ f fd T,FunD K m qual st f fd T/\Meth K C m f
theorem Z02 {K:Fq} {mg:Str->Option Value} {h:Heap} {x m qual:Str} {C f T:Addr} {st:Stmt} {oc oc':Value} {od od' an:Option Addr} {n:Nat} {osl osl':Array (Option Value)} {kV doc pm cdv ct:Value} (X:K.In h) (G:h.Ns mainGlobals mg) (aC:PySem.W.nsIn K mainGlobals x=some (some (.ref C)))
 (a:PySem.W.findIn K (.ref C) m=some (some (.ref f))) (i:PySem.W.isFn K (.ref f)=true)
 (l:K.lookup f=some ⟨oc,od,.func (PySem.W.fnOf m qual (Qy st) (Xw st) (Zq st) (.ref T) kV doc pm an cdv ct),osl⟩)
 (t:K.lookup T=some ⟨oc',od',.seq #[Value.none] n,osl'⟩)
 (c:PySem.W.codeIn K cdv qual=true) (k:PySem.W.keepIn K (.ref f)=true):DfMD K (clsA mg x) m qual st:=by
 rw [Zlh X G aC]
 exact ⟨f,_,T,⟨⟨oc,od,kV,doc,pm,an,cdv,ct,osl,rfl,l,c⟩,⟨oc',od',n,osl',t⟩,k⟩,a,i,k⟩
def FnMD (P:Program) (w:World) (K:Fq) (mg:Str->Option Value) (base:Heap) (CX:CXT) (C:Addr) (m:Str) (k:Nat) (ps:List Str) (sp:Sp):Prop :=
 ∃ f fd,FnOk P w K mg base CX k f fd ps sp/\Meth K C m f/\Binds K fd ps []/\Binds K fd ps [Value.none]
section
variable {P:Program} {w:World} {K:Fq} {mg:Str->Option Value} {base:Heap}
theorem FunD.okR {x qual:Str} {st:Stmt} {f T:Addr} {fd:FuncData} {N ps:List Str} {k:Nat} {sp:Sp} (F:FunD K x qual st f fd T) (S:FnScope N ps (Zq st)) (len:∀ vs H Q E,sp vs H Q E->vs.length=ps.length)
 (hbody:∀ (cdv:Value) (A:Around) (outer:List Env) (s:Shared) (H:Hp) (vs:List V) (Q:VK) (E:XK),Room k (A.deeper (envOfC qual (Zq st) s.heap.objs.size f cdv))->sp vs H Q E ->
  ∃ t,PSs (cxR P w K mg base N qual (Zq st) f cdv A outer s H E) (Xw st) t/\t { nx:=λ _ H'=>Q .non H',rt:=Q } (start N vs) H):FnOk P w K mg base (CXr P w base) (k+1) f fd ps sp:=by
 obtain ⟨oc,od,kV,doc,pm,an,cdv,ct,osl,rfl,lk,hcd⟩:=F.ex
 exact Zuj lk hcd S len λ A outer s H vs Q E hr hsp=>hbody cdv A outer s H vs Q E hr hsp
theorem DfMD.to {CX:CXT} {C:Addr} {m qual p1 p2:Str} {st:Stmt} {k:Nat} {sp:Sp} (D:DfMD K C m qual st) (h:∀ {f T:Addr} {fd:FuncData},FunD K m qual st f fd T->FnOk P w K mg base CX k f fd [p1,p2] sp)
 (h2:∀ (T:Addr) (kV doc pm:Value) (an:Option Addr) (cdv ct u v:Value),∃ k,bindArgs (PySem.W.fnOf m qual (Qy st) (Xw st) (Zq st) (.ref T) kV doc pm an cdv ct) ⟨[u,v],[]⟩=seqItems? (.ref T) >>= k/\k (some #[Value.none])=pure [(p1,u),(p2,v)])
 (h1:∀ (T:Addr) (kV doc pm:Value) (an:Option Addr) (cdv ct u:Value),∃ k,bindArgs (PySem.W.fnOf m qual (Qy st) (Xw st) (Zq st) (.ref T) kV doc pm an cdv ct) ⟨[u],[]⟩=seqItems? (.ref T) >>= k/\k (some #[Value.none])=pure [(p1,u),(p2,Value.none)]) :
 FnMD P w K mg base CX C m k [p1,p2] sp:=by
 obtain ⟨f,fd,T,F,hm⟩:=D
 have ok:=h F
 obtain ⟨oc',od',n,osl',ht⟩:=F.tup
 obtain ⟨oc,od,kV,doc,pm,an,cdv,ct,osl,rfl,lk,hcd⟩:=F.ex
 refine ⟨f,_,ok,hm,λ s us X hl=>?_,λ s us X hl=>?_⟩
 · rw [List.append_nil] at hl ⊢
   match us,hl with
   | [u,v],_ =>
     obtain ⟨k,e1,e2⟩:=h2 T kV doc pm an cdv ct u v
     exact BindsTo.of_defaults (k:=k) rfl (X _ _ ht) rfl e1 e2
 · have h1':us.length=1:=by simpa using hl
   obtain ⟨u,rfl⟩:=List.length_eq_one_iff.mp h1'
   obtain ⟨k,e1,e2⟩:=h1 T kV doc pm an cdv ct u
   exact BindsTo.of_defaults (k:=k) rfl (X _ _ ht) rfl e1 e2
end
section
variable {X:Cx} {CX:CXT} {k:Nat} {C:Addr} {ps:List Str} {sp:Sp} {E:XK} {x m:Str} {p pos apos cpos:Pos} {e o:Expr} {es:List Expr} {ta to:TE} {t:TA}
theorem Zwy {pl:Sem Bool} (c:Own X.K X.mg x C) (G:FnMD X.prog X.w X.K X.mg X.base CX C m k ps sp) (hr:Room k X.A) (hx:Passes CX X E) (he:PE X o ta)
 (ht:eval (.Call (.Attribute o m apos) [] [] pos) X.env=(do
  let ov ← eval o X.env
  standAt apos.atName
  let (f,first) ← holding [ov] (getMethod ov m pl)
  callWith pos f first (backTo pos (starEach [] X.env)) (backToKw pos (keywordEach [] X.env))):=by rfl) :
 PE X (.Call (.Attribute o m apos) [] [] pos) (Yw C m sp [.non] E ta Zg):=by
 obtain ⟨f,fd,F,hm,_,hb⟩:=G
 exact Zqi (pl:=pl) he c.cl hm F hr hb (.cons rfl .nil) hx ht
end
end L2
namespace L2
open PySem PySem.Spec PySem.W PyProof.Rows PyProof.Rows.KTD
abbrev DefTab (h:Heap) (a:Addr) (D:List (Str×Value)):Prop:=TabOf (λ d v=>v=d) h a D
section
variable {prog:Program} {w:World} {A:Around} {E:Value->Shared->Prop} {s:Shared} {a:Addr} {D:List (Str×Value)} {k:Str} {tk:Tok}
theorem DefTab.ty (T:DefTab s.heap a D):s.TypeIs (.ref a) "dict":=let ⟨_,o,_,_,q,c,_⟩:=T; ⟨o,q,c.1⟩
theorem Zlt {Q:Option Value->Shared->Prop} (T:DefTab s.heap a D) (h:Q (datumAt k D) { s with toks:=s.toks+1 }):wpAny (model prog w) A (dictGet a (.str k tk)) Q E s:=by
 obtain ⟨_,o,es,ep,q1,q2,q3,rr⟩:=T
 unfold dictGet
 try with_reducible refine wpAny_holding ?_
 refine wpAny_bind (wpAny_pyHash_str (wpAny_bind (kt_dictFind_strs (s:={ s with toks:=s.toks+1 }) q1 q3 (by obtain ⟨l⟩:=es; simpa using rr.exact) ?_)))
 have hq:Q (findBy (λ k v=>v.isStr k) es k) { s with toks:=s.toks+1 }:=by
  have hf:findBy (λ k v=>v.isStr k) es k=(es.toList.find? λ e=>e.key.isStr k).map (·.val):=by obtain ⟨l⟩:=es; simp [findBy]
  rw [hf]
  cases hat:datumAt k D with
  | some d=>obtain ⟨v,hv,hfl⟩:=rr.find_some hat; rw [hv,hfl]; rw [hat] at h; exact h
  | none=>rw [rr.find_none hat]; rw [hat] at h; exact h
 rw [findBy_of_findIdx?] at hq
 cases hi:es.findIdx? λ e=>e.key.isStr k with
 | none=>rw [hi] at hq; exact wpAny_pure hq
 | some i=>rw [hi] at hq; exact wpAny_bind (wpAny_dictEntries (s:={ s with toks:=s.toks+1 }) q1 q3 (wpAny_pure hq))
theorem Zpg {Q:Value->Shared->Prop} {v:Value} (T:DefTab s.heap a D) (hv:datumAt k D=some v) (h:Q v { s with toks:=s.toks+1 }):wpAny (model prog w) A (getItem (.ref a) (.str k tk)) Q E s:=by
 unfold getItem
 try with_reducible refine wpAny_holding ?_
 refine wpAny_bind (wpAny_sequenceKey T.ty (by decide) (wpAny_bind (wpAny_callSpecial?_slot (name:=Str.ofString "__getitem__") T.ty slot_dict_getitem (wpAny_call_entry slot_dict_getitem T.ty entry_dict_getitem ?_ (args_dict_getitem _ _)))))
 show wpAny _ _ (dictGet a (.str k tk) >>= _) _ _ s
 refine wpAny_bind (Zlt T ?_)
 rw [hv]
 exact wpAny_pure ⟨v,rfl,wpAny_pure h⟩
theorem Z1u {Q:Value->Shared->Prop} (T:DefTab s.heap a D) (h:Q (.bool (datumAt k D).isSome) { s with toks:=s.toks+1 }):wpAny (model prog w) A (compareOp .In (.str k tk) (.ref a)) Q E s:=by
 show wpAny _ _ (do return .bool (← contains (.ref a) (.str k tk))) Q E s
 refine wpAny_bind ?_
 unfold contains
 try with_reducible refine wpAny_holding ?_
 refine wpAny_bind (wpAny_specialOf T.ty slot_dict_contains.lookup ?_)
 show wpAny _ _ (if (some (Value.builtin "dict.__contains__") == some Value.none)=true then _ else _) _ E s
 rw [if_neg (by rw [beq_builtin_none]; decide)]
 refine wpAny_bind (wpAny_callSpecialUnlessNone?_slot (name:=Str.ofString "__contains__") T.ty slot_dict_contains (wpAny_call_entry slot_dict_contains T.ty entry_dict_contains ?_ (args_dict_contains _ _)))
 show wpAny _ _ (dictGet a (.str k tk) >>= _) _ _ s
 refine wpAny_bind (Zlt T ?_)
 cases hat:datumAt k D with
 | some d =>
   rw [hat] at h
   show wpAny _ _ (ret (.bool true)) _ _ _
   exact wpAny_pure ⟨_,rfl,wpAny_truthy_bool (wpAny_pure h)⟩
 | none =>
   rw [hat] at h
   show wpAny _ _ (Builtin.Dict.pendingKey? a (.str k tk) >>= _) _ _ _
   exact wpAny_bind (wpAny_pendingKey_other T.1 (wpAny_pure ⟨_,rfl,wpAny_truthy_bool (wpAny_pure h)⟩))
theorem Zvd {Q:Value->Shared->Prop} (T:DefTab s.heap a D) (h:Q (.bool (!(datumAt k D).isSome)) { s with toks:=s.toks+1 }):wpAny (model prog w) A (compareOp .NotIn (.str k tk) (.ref a)) Q E s:=by
 show wpAny _ _ (do return .bool (!(← contains (.ref a) (.str k tk)))) Q E s
 refine wpAny_bind ?_
 unfold contains
 try with_reducible refine wpAny_holding ?_
 refine wpAny_bind (wpAny_specialOf T.ty slot_dict_contains.lookup ?_)
 show wpAny _ _ (if (some (Value.builtin "dict.__contains__") == some Value.none)=true then _ else _) _ E s
 rw [if_neg (by rw [beq_builtin_none]; decide)]
 refine wpAny_bind (wpAny_callSpecialUnlessNone?_slot (name:=Str.ofString "__contains__") T.ty slot_dict_contains (wpAny_call_entry slot_dict_contains T.ty entry_dict_contains ?_ (args_dict_contains _ _)))
 show wpAny _ _ (dictGet a (.str k tk) >>= _) _ _ s
 refine wpAny_bind (Zlt T ?_)
 cases hat:datumAt k D with
 | some d =>
   rw [hat] at h
   show wpAny _ _ (ret (.bool true)) _ _ _
   exact wpAny_pure ⟨_,rfl,wpAny_truthy_bool (wpAny_pure h)⟩
 | none =>
   rw [hat] at h
   show wpAny _ _ (Builtin.Dict.pendingKey? a (.str k tk) >>= _) _ _ _
   exact wpAny_bind (wpAny_pendingKey_other T.1 (wpAny_pure ⟨_,rfl,wpAny_truthy_bool (wpAny_pure h)⟩))
end
structure Tbl (K:Fq) (mg:Str->Option Value) (x:Str) (D:List (Str×Addr)):Prop where
 ex:∃ a o es ep,mg x=some (.ref a)/\(a == sysModules)=false/\K.lookup a=some o/\o.ExactDict/\o.data=.dict es ep/\Rows (λ d v=>v=d) es.toList (D.map λ p=>(p.1,Value.ref p.2))
 kp:∀ p∈D,PySem.W.keepIn K (.ref p.2)=true
theorem Tbl.tab {K:Fq} {mg:Str->Option Value} {x:Str} {D:List (Str×Addr)} {h:Heap} (T:Tbl K mg x D) (X:K.In h):∃ a,mg x=some (.ref a)/\DefTab h a (D.map λ p=>(p.1,Value.ref p.2)):=by
 obtain ⟨a,o,es,ep,q1,q2,q3,q4,q5,q6⟩:=T.ex
 exact ⟨a,q1,q2,o,es,ep,X _ _ q3,q4,q5,q6⟩
def Xu (D:List (Str×Addr)) (k:Str):Option Addr:=(D.find? λ p=>decide (k=p.1)).map (·.2)
theorem Zgs (k:Str):∀ D:List (Str×Addr),datumAt k (D.map λ p=>(p.1,Value.ref p.2))=(Xu D k).map Value.ref
 | []=>rfl
 | p::D=>by
   have ih:=Zgs k D
   by_cases h:k=p.1
   · simp [Xu,datumAt,h]
   · unfold Xu at ih ⊢
     simp only [List.map_cons,List.find?_cons,decide_eq_false h]
     simpa [datumAt,h] using ih
def Zlv (D:List (Str×Addr)) (ty:TE):TE:=λ σ H Q=>ty σ H λ y H1=>∃ k,y=.str k/\Q (.bl (Xu D k).isSome) H1
def Zlu (D:List (Str×Addr)) (ty:TE):TE:=λ σ H Q=>ty σ H λ y H1=>∃ k,y=.str k/\Q (.bl (!(Xu D k).isSome)) H1
section
variable {X:Cx} {x:Str} {D:List (Str×Addr)} {i e:Expr} {es:List Expr} {ty:TE} {t:TA} {p pos pos':Pos}
theorem Zqk (T:Tbl X.K X.mg x D) (hg:Gl X x) (hi:PE X i ty) (hd:(x == ("__debug__":Str))=false:=by decide):PC X .In i (.Name x p) (Zlv D ty):=by
 intro pins s σ H Q I h
 refine thn (hi pins s σ H _ I h) λ iv s1 ⟨y,H1,I1,ry,k,ey,q1⟩=>?_
 subst ey
 obtain ⟨tk,rfl⟩:=ry
 obtain ⟨a,hm,tb⟩:=T.tab I1.kIn
 refine Jy I1 hg hm (Z1u tb ?_) hd
 rw [Zgs,Option.isSome_map]
 exact ⟨.bl _,H1,I1.tok _,rfl,q1⟩
theorem Zvw (T:Tbl X.K X.mg x D) (hg:Gl X x) (hi:PE X i ty) (hd:(x == ("__debug__":Str))=false:=by decide):PC X .NotIn i (.Name x p) (Zlu D ty):=by
 intro pins s σ H Q I h
 refine thn (hi pins s σ H _ I h) λ iv s1 ⟨y,H1,I1,ry,k,ey,q1⟩=>?_
 subst ey
 obtain ⟨tk,rfl⟩:=ry
 obtain ⟨a,hm,tb⟩:=T.tab I1.kIn
 refine Jy I1 hg hm (Zvd tb ?_) hd
 rw [Zgs,Option.isSome_map]
 exact ⟨.bl _,H1,I1.tok _,rfl,q1⟩
def Zgw (D:List (Str×Addr)) (ty:TE) (S:List (Addr×Sp)) (E:XK) (t:TA):TE:=λ σ H Q=>ty σ H λ y H1=>∃ k f sp,y=.str k/\Xu D k=some f/\(f,sp)∈S/\t σ H1 λ vs H2=>sp vs H2 Q E
def TFn (X:Cx) (CX:CXT) (k:Nat) (c:Addr×Sp):Prop:=∃ fd ps,FnOk X.prog X.w X.K X.mg X.base CX k c.1 fd ps c.2/\PySem.W.keepIn X.K (.ref c.1)=true/\Binds X.K fd ps []
theorem Ko {CX:CXT} {g:Str} {k:Nat} {ps:List Str} {sp:Sp} {j:Nat} (G:Fn X.prog X.w X.K X.mg X.base CX g j ps sp) (h:j<=k):TFn X CX k (clsA X.mg g,sp):=by
 obtain ⟨f,fd,F,hm,hk,hb⟩:=G
 have ea:clsA X.mg g=f:=by unfold clsA; rw [hm]
 rw [ea]
 exact ⟨fd,ps,F.mono h,hk,hb⟩
theorem Zjh {CX:CXT} {E:XK} {k:Nat} {S:List (Addr×Sp)} (T:Tbl X.K X.mg x D) (hg:Gl X x) (hi:PE X i ty) (hS:∀ c∈S,TFn X CX k c) (hr:Room k X.A) (hx:Passes CX X E) (ha:PB X (e::es) t) (hs:NoSl i)
 (hd:(x == ("__debug__":Str))=false:=by decide) (he:Yp e=false:=by rfl) (hpl:es.all (λ e=>!Yp e)=true:=by rfl)
 (hcall:eval (.Call (.Subscript (.Name x p) i pos') (e::es) [] pos) X.env=(do
  let fv ← eval (.Subscript (.Name x p) i pos') X.env
  callWith pos fv [] (backTo pos (starEach (e::es) X.env)) (backToKw pos (keywordEach [] X.env))):=by rfl):PE X (.Call (.Subscript (.Name x p) i pos') (e::es) [] pos) (Zgw D ty S E t):=by
 intro pins s σ H Q I h
 rw [hcall]
 refine wpAny_bind ?_
 obtain ⟨a,hm,tb⟩:=T.tab I.kIn
 refine Zly PySem.F.slot_dict_getitem.lookup hs (Jy I hg hm (thn (hi pins s σ H _ I h) λ iv s2 ⟨y,H2,I2,ry,kk,f,sp,ey,hk,hm2,q⟩=>?_) hd)
 subst ey
 obtain ⟨tk,rfl⟩:=ry
 obtain ⟨a',hm',tb'⟩:=T.tab I2.kIn
 have ea:a'=a:=by rw [hm] at hm'; cases hm'; rfl
 subst ea
 refine ⟨tb'.ty,Zpg tb' (v:=.ref f) (by rw [Zgs,hk]; rfl) ?_⟩
 obtain ⟨fd,ps,F,hkp,hb⟩:=hS _ hm2
 have I3:=I2.tok (s2.toks+1)
 refine PySem.W.callWith_K (h₀:=X.base) I3.ok.mod.kin hkp (thn (ha.ok pos pins _ σ H2 _ I3 q) λ us s4 ⟨vs,H4,I4,r,q4⟩=>⟨I4.kIn,?_⟩) (Yq he) (Wf hpl)
 exact Zj7 (dvs:=[]) F hr hb .nil hx I4 r (by simpa only [List.append_nil] using q4)
end
end L2
namespace L2
open PySem PySem.Spec PySem.W PyProof.Rows
def PEx (X:Cx) (e:Expr) (tq:St->Hp->VK->XK->Prop):Prop:=∀ (pins:List (Addr×Obj)) (σ:St) (H:Hp) (s:Shared) (Q:VK) (E:XK) (E':Value->Shared->Prop),Inv X pins σ H s->tq σ H Q E ->
 (∀ s1 s' H1 e' cls H2 B a0,Inv X pins σ H1 s1->Flown X.prog X.w X.base X.stack H1 s1 s' e' cls H2 B a0->E cls none H2->E' (.ref e') s')->wpAny (model X.prog X.w) X.A (eval e X.env) (EP X pins σ Q) E' s
def Zjs (C:Addr) (m:Str) (sp:Sp) (ta:TE) (t:TA):St->Hp->VK->XK->Prop:=λ σ H Q E=>ta σ H λ x H1=>∃ a dx fs,x=.ref a/\H1 a=some (.ins C dx fs)/\fs.lookup m=none/\t σ H1 λ vs H2=>sp (x::vs) H2 Q E
theorem Fn.alias {P:Program} {w:World} {K:Fq} {mg:Str->Option Value} {base:Heap} {CX:CXT} {x y:Str} {k:Nat} {ps:List Str} {sp:Sp} (G:Fn P w K mg base CX x k ps sp) (h:mg y=mg x):Fn P w K mg base CX y k ps sp :=
 let ⟨f,fd,F,hm,r⟩:=G; ⟨f,fd,F,h.trans hm,r⟩
theorem Zyz {K:Fq} {mg:Str->Option Value} {h:Heap} {x y:Str} {v:Value} (X:K.In h) (G:h.Ns mainGlobals mg) (a:PySem.W.nsIn K mainGlobals x=some (some v)) (b:PySem.W.nsIn K mainGlobals y=some (some v)):mg x=mg y :=
 (PySem.W.mg_of X G a).trans (PySem.W.mg_of X G b).symm
section
variable {X:Cx} {k:Nat} {g m x:Str} {C:Addr} {ps:List Str} {sp:Sp} {p pos apos cpos:Pos} {e o:Expr} {es:List Expr} {t:TA} {ta:TE}
theorem Zsr {pl:Sem Bool} (c:Own X.K X.mg x C) (G:FnM X.prog X.w X.K X.mg X.base (CXr X.prog X.w X.base) C m k ps sp) (hr:Room k X.A) (ho:∀ E',PE (X.wish E') o ta) (ha:∀ E',PB (X.wish E') (e::es) t) (hst:Yp e=false:=by rfl) (hpl:es.all (λ e=>!Yp e)=true:=by rfl)
 (ht:eval (.Call (.Attribute o m apos) (e::es) [] pos) X.env=(do
  let ov ← eval o X.env
  standAt apos.atName
  let (f,first) ← holding [ov] (getMethod ov m pl)
  callWith pos f first (backTo pos (starEach (e::es) X.env)) (backToKw pos (keywordEach [] X.env))):=by rfl) :
 PEx X (.Call (.Attribute o m apos) (e::es) [] pos) (Zjs C m sp ta t):=by
 intro pins σ H s Q E E' I h hE
 obtain ⟨f,fd,F,hm,hb⟩:=G
 refine PySem.W.methodCall_KW (pl:=pl) (thn (ho E' pins s σ H _ (I.wish E') h) λ u s1 ⟨x,H1,I1,rx,a,dx,fs,ex,ea,l,q⟩=>?_) ht
 subst ex
 obtain rfl:u=Value.ref a:=rx
 refine Za2 (X:=X.wish E') I1 ea c.cl hm l ?_
 refine PySem.W.callWith_K (first:=[.ref a]) (h₀:=X.base) I.ok.mod.kin hm.kp (thn ((ha E').ok pos pins s1 σ H1 _ I1 q) λ us s2 ⟨vs,H2,I2,r,q2⟩=>⟨I2.kIn,?_⟩) (Yq hst) (Wf hpl)
 have I2':Inv X pins σ H2 s2:=I2.unwish
 have r2:Vals (V.ref a::vs) (Value.ref a::us):=.cons rfl r
 have hl:((Value.ref a::us)++[]).length=ps.length:=by rw [List.append_nil,← r2.length]; exact F.len _ _ _ _ q2
 have hb1:=hb s2 (.ref a::us) I2'.kIn hl
 rw [List.append_nil] at hb1
 refine wpAny_call (codeAny_mono (F.run X.A X.stack s2 H2 ⟨.ref a::us,[]⟩ (.ref a::us) (.ref a::vs) _ _ hr I2'.env0 hb1 r2 q2) λ r' s' hq=>?_)
 cases r' with
 | error ev =>
   obtain ⟨e',cls,H3,B,a0,rfl,FL,hcl⟩:=hq
   exact hE s2 s' H2 e' cls H3 B a0 I2' FL hcl
 | ok fl =>
   cases fl with
   | ret u=>exact I2'.after hq
   | next=>exact False.elim hq
   | brk=>exact False.elim hq
   | cont=>exact False.elim hq
end
def Zoy (K:Fq) (C:Addr) (Dn:Ends) (σ:St) (H:Hp):List (Addr×TS)->Prop
 | []=>False
 | (D,ts)::r=>(PySem.W.mroIn K C (.ref D)=some true/\ts Dn σ H)\/(PySem.W.mroIn K C (.ref D)=some false/\Zoy K C Dn σ H r)
inductive Hnd (X:Cx):List ExceptHandler->List (Addr×TS)->Prop
 | nil:Hnd X [] []
 | cons {x:Str} {np hpos:Pos} {D:Addr} {b₀:Stmt} {suite:List Stmt} {ts:TS} {hs:List ExceptHandler} {r:List (Addr×TS)} (T:ExC X.K X.mg x D) (hg:Gl X x) (hb:∀ e',PSs (X.suite e') (b₀::suite) ts) (hd:(x == ("__debug__":Str))=false) (t:Hnd X hs r) :
  Hnd X (.ExceptHandler (some (.Name x np)) none (b₀::suite) hpos::hs) ((D,ts)::r)
theorem Zkz {X:Cx} {x:Str} {np hpos:Pos} {D:Addr} {b₀:Stmt} {suite:List Stmt} {ts:TS} {hs:List ExceptHandler} {r:List (Addr×TS)} (T:ExC X.K X.mg x D) (hg:Gl X x) (hb:∀ e',PSs (X.suite e') (b₀::suite) ts) (t:Hnd X hs r) (hd:(x == ("__debug__":Str))=false:=by decide) :
 Hnd X (.ExceptHandler (some (.Name x np)) none (b₀::suite) hpos::hs) ((D,ts)::r):=.cons T hg hb hd t
def Ztp (K:Fq) (tq:St->Hp->VK->XK->Prop) (hs:List (Addr×TS)):TS:=λ Dn σ H=>tq σ H (λ _ H2=>Dn.nx σ H2) (λ cls _ H2=>∃ C,cls=.ref C/\PySem.W.excIn K C bmV "ValueError.__new__"=true/\Zoy K C Dn σ H2 hs)
theorem Zz5 {X:Cx} {c:Expr} {tq:St->Hp->VK->XK->Prop} {h0:ExceptHandler} {hs:List ExceptHandler} {rs:List (Addr×TS)} {epos pos:Pos} (hst:X.stack=X.env::X.outer) (hfr:X.env.frame=some X.env.locals) (hc:PEx X c tq) (hh:Hnd X (h0::hs) rs)
 (hsw:swapsWith c none epos.line X.env=pure false:=by rfl):PS X (.Try [.Expr c epos] (h0::hs) [] [] pos) (Ztp X.K tq rs):=by
 intro pins s σ H Dn I h
 have hL:X.env.locals∈frs X.stack:=by
  rw [hst]
  show _∈(X.env::X.outer).filterMap (·.frame)
  rw [List.filterMap_cons,hfr]
  exact List.mem_cons_self
 refine wpAny_Try_except (wpAny_execs_cons (wpAny_Expr_any (thn (hc pins σ H s _ _ _ I h λ s1 s' H1 e' cls H2 B a0 I1 F hcl=>?_) λ v s2 ⟨_,H2,I2,_,q⟩=>wpAny_execs_nil (wpAny_execs_nil ⟨σ,H2,I2,q⟩)) I.quiet hsw))
 obtain ⟨C,rfl,qC,hor⟩:=hcl
 have frm:X.A.frames=some (X.env::X.outer):=by rw [← hst]; exact I.ok.frames
 have fly:=F.fly
 rw [hst] at fly
 refine wpAny_looks_onW frm hfr fly λ h4 held up4=>?_
 refine wpAny_landsW held λ h5 fl5 up5=>?_
 have c5:=F.caught I1 hL (by rw [hst]; exact fl5) (up4.trans up5)
 obtain ⟨oe,hoe,hcl⟩:=c5.there
 clear h
 have all:∀ {hs:List ExceptHandler} {rs:List (Addr×TS)},Hnd X hs rs->Zoy X.K C Dn σ H2 rs->wpAny (model X.prog X.w) X.A (handleBy (.ref e') X.env hs) (SP X pins Dn) X.xe { s' with heap:=h5 }:=by
  intro hs rs hh
  induction hh with
  | nil=>exact λ z=>z.elim
  | cons T hg hb hd t ih =>
    rintro (⟨hsub,hts⟩ | ⟨hno,more⟩)
    · refine wpAny_handleBy_cons (codeAny_handlers_test (Jy (c5.inv.suite e') hg T.bound (Zhl c5.inv.kIn qC T.q hoe hcl hsub ?_) hd)) (by intro q; cases q)
      refine codeAny_handlers_suite (lands_againW fl5 λ h6 fl6 up6=>?_)
      have c6:=F.caught I1 hL (by rw [hst]; exact fl6) ((up4.trans up5).trans up6)
      exact wpAny_mono (hb e' pins _ σ H2 Dn (c6.inv.suite e') hts) (λ f s7 q=>q.unsuite I.ok) λ _ _ z=>z.elim
    · refine wpAny_handleBy_cons (codeAny_handlers_test (Jy (c5.inv.suite e') hg T.bound (Zhl c5.inv.kIn qC T.q hoe hcl hno ?_) hd)) (by intro q; cases q)
      exact ih more
 exact all hh hor
def Zto (K:Fq) (D:Addr) (i:Nat) (tq:St->Hp->VK->XK->Prop) (ts:Addr->TS):TS:=λ Dn σ H=>tq σ H (λ _ H2=>Dn.nx σ H2)
 (λ cls _ H2=>∃ C,cls=.ref C/\PySem.W.excIn K C bmV "ValueError.__new__"=true/\PySem.W.mroIn K C (.ref D)=some true/\∀ e,H2 e=none ->
  ts e { nx:=λ σ' H'=>Dn.nx (σ'.set i none) H',rt:=Dn.rt,bk:=λ σ' H'=>Dn.bk (σ'.set i none) H',ct:=λ σ' H'=>Dn.ct (σ'.set i none) H' } (σ.set i (some (.ref e))) (upd H2 e (.ext (ExPc e C))))
theorem Zz4 {X:Cx} {x n:Str} {np epos hpos pos:Pos} {c:Expr} {tq:St->Hp->VK->XK->Prop} {ts:Addr->TS} {D:Addr} {b₀:Stmt} {suite:List Stmt} {i:Nat} (hN:X.N.Nodup) (hi:X.N[i]?=some n) (hk:X.env.scope.names.lookup n=some .local) (hst:X.stack=X.env::X.outer) (hfr:X.env.frame=some X.env.locals)
 (hc:PEx X c tq) (T:ExC X.K X.mg x D) (hgx:Gl X x) (hs:∀ e',PSs (X.suite e') (b₀::suite) (ts e')) (hdx:(x == ("__debug__":Str))=false:=by decide)
 (hsw:swapsWith c none epos.line X.env=pure false:=by rfl) :
 PS X (.Try [.Expr c epos] [.ExceptHandler (some (.Name x np)) (some n) (b₀::suite) hpos] [] [] pos) (Zto X.K D i tq ts):=by
 intro pins s σ H Dn I h
 have hL:X.env.locals∈frs X.stack:=by
  rw [hst]
  show _∈(X.env::X.outer).filterMap (·.frame)
  rw [List.filterMap_cons,hfr]
  exact List.mem_cons_self
 refine wpAny_Try_except (wpAny_execs_cons (wpAny_Expr_any (thn (hc pins σ H s _ _ _ I h λ s1 s' H1 e' cls H2 B a0 I1 F hcl=>?_) λ v s2 ⟨_,H2,I2,_,q⟩=>wpAny_execs_nil (wpAny_execs_nil ⟨σ,H2,I2,q⟩)) I.quiet hsw))
 obtain ⟨C,rfl,qC,hsub,hts⟩:=hcl
 have frm:X.A.frames=some (X.env::X.outer):=by rw [← hst]; exact I.ok.frames
 have fly:=F.fly
 rw [hst] at fly
 obtain ⟨y1,y2,y3,y4⟩:=fly
 refine Zt9 frm hfr y1 y2 y3 y4.at F.ctx λ h4 held cn4 up4=>?_
 obtain ⟨w1,w2,w3,w4⟩:=held
 refine Zkr (s:={ s' with heap:=h4 }) w1 w2 w3 w4 cn4 λ h5 fl5 cn5 up5=>?_
 have c5:=F.caught I1 hL (by rw [hst]; exact fl5) (up4.trans up5)
 obtain ⟨oe,hoe,hcl⟩:=c5.there
 refine wpAny_handleBy_cons (codeAny_handlers_test (Jy (c5.inv.suite e') hgx T.bound (Zsa c5.inv.kIn qC T.q hoe hcl hsub ?_) hdx)) (by intro q; cases q)
 obtain ⟨v1,v2,v3,v4⟩:=fl5
 refine codeAny_handlers_suite_as (Zkr (s:={ s' with heap:=h5 }) v1 v2 v3 v4.at cn5 λ h6 fl6 cn6 up6=>?_)
 have I6:=F.caughtC I1 hL (by rw [hst]; exact fl6) cn6 ((up4.trans up5).trans up6)
 refine Zix (X:=X.suite e') (v:=.ref e') (I6.suite e') hN hi (.inl hk) rfl (λ s7 I7=>?_) (.inr hk)
 refine wpAny_mono (hs e' pins s7 _ _ _ I7 (hts e' c5.noe)) (λ f s8 q=>?_) λ _ _ z=>z.elim
 have q':=q.unsuite I.ok
 cases f with
 | next=>obtain ⟨σ',H',I',q⟩:=q'; exact Zh8 I' hN hi hk λ s9 I9=>⟨_,H',I9,q⟩
 | brk=>obtain ⟨σ',H',I',q⟩:=q'; exact Zh8 I' hN hi hk λ s9 I9=>⟨_,H',I9,q⟩
 | cont=>obtain ⟨σ',H',I',q⟩:=q'; exact Zh8 I' hN hi hk λ s9 I9=>⟨_,H',I9,q⟩
 | ret u=>obtain ⟨v,σ',H',I',r,q⟩:=q'; exact Zh8 I' hN hi hk λ s9 I9=>⟨v,_,H',I9,r,q⟩
theorem G5 {α:Type} {p:α->Prop} {a:α} {l:List α} (h:p a) (t:∀ c∈l,p c):∀ c∈a::l,p c:=λ c hc=>by
 rcases List.mem_cons.mp hc with rfl | hc
 · exact h
 · exact t c hc
theorem Zut {α:Type} {p:α->Prop}:∀ c∈([]:List α),p c:=λ c hc=>nomatch hc
theorem Zjt {K:Fq} {mg:Str->Option Value} {h:Heap} {x:Str} {A:Addr} {es:Array DictEntry} {ep:Nat} {names:List (Str×Str)} (X:K.In h) (G:h.Ns mainGlobals mg) (a:PySem.W.nsIn K mainGlobals x=some (some (.ref A))) (l:K.lookup A=some ⟨.type "dict",none,.dict es ep,#[]⟩)
 (hs:(A == sysModules)=false) (r:KTD.Rows (λ n v=>∃ f,PySem.W.nsIn K mainGlobals n=some (some (.ref f))/\v=.ref f/\PySem.W.keepIn K (.ref f)=true) es.toList names):Tbl K mg x (names.map λ p=>(p.1,clsA mg p.2)):=by
 have key:∀ {es':List DictEntry},KTD.Rows (λ n v=>∃ f,PySem.W.nsIn K mainGlobals n=some (some (.ref f))/\v=.ref f/\PySem.W.keepIn K (.ref f)=true) es' names->KTD.Rows (λ d v=>v=d) es' ((names.map λ p=>(p.1,clsA mg p.2)).map λ p=>(p.1,Value.ref p.2))/\∀ p∈names.map λ p=>(p.1,clsA mg p.2),PySem.W.keepIn K (.ref p.2)=true:=by
  intro es' r'
  clear l r
  induction r' with
  | nil=>exact ⟨.nil,λ p hp=>nomatch hp⟩
  | @cons _ x' _ n' _ _ hk hv _ ih =>
    obtain ⟨f,hf,hv,kp⟩:=hv
    have e:clsA mg n'=f:=by unfold clsA; rw [PySem.W.mg_of X G hf]
    refine ⟨.cons hk ?_ ih.1,λ p hp=>?_⟩
    · rw [hv]; dsimp only; rw [e]
    · rw [List.map_cons] at hp
      rcases List.mem_cons.mp hp with rfl | hp
      · dsimp only; rw [e]; exact kp
      · exact ih.2 p hp
 exact ⟨⟨A,_,es,ep,PySem.W.mg_of X G a,hs,l,⟨rfl,rfl,rfl⟩,rfl,(key r).1⟩,(key r).2⟩
theorem Zzx {D:List (Str×Addr)} {k:Str} {f:Addr} (h:Xu D k=some f):∃ p∈D,p.2=f:=by
 unfold Xu at h
 obtain ⟨p,hp,e⟩:=Option.map_eq_some_iff.mp h
 exact ⟨p,List.mem_of_find?_eq_some hp,e⟩
def Ziw (D:List (Str×Addr)) (ty:TE) (t:TA):TE:=λ σ H _=>ty σ H λ y H1=>∃ k,y=.str k/\(Xu D k).isSome=true/\t σ H1 λ _ _=>False
theorem Zun {X:Cx} {x:Str} {D:List (Str×Addr)} {i e:Expr} {es:List Expr} {ty:TE} {t:TA} {p pos pos':Pos} (T:Tbl X.K X.mg x D) (hg:Gl X x) (hi:PE X i ty) (ha:PB X (e::es) t) (hs:NoSl i)
 (hd:(x == ("__debug__":Str))=false:=by decide) (he:Yp e=false:=by rfl) (hpl:es.all (λ e=>!Yp e)=true:=by rfl)
 (hcall:eval (.Call (.Subscript (.Name x p) i pos') (e::es) [] pos) X.env=(do
  let fv ← eval (.Subscript (.Name x p) i pos') X.env
  callWith pos fv [] (backTo pos (starEach (e::es) X.env)) (backToKw pos (keywordEach [] X.env))):=by rfl):PE X (.Call (.Subscript (.Name x p) i pos') (e::es) [] pos) (Ziw D ty t):=by
 intro pins s σ H Q I h
 rw [hcall]
 refine wpAny_bind ?_
 obtain ⟨a,hm,tb⟩:=T.tab I.kIn
 refine Zly PySem.F.slot_dict_getitem.lookup hs (Jy I hg hm (thn (hi pins s σ H _ I h) λ iv s2 ⟨y,H2,I2,ry,kk,ey,hk,q⟩=>?_) hd)
 subst ey
 obtain ⟨tk,rfl⟩:=ry
 obtain ⟨f,hk⟩:=Option.isSome_iff_exists.mp hk
 obtain ⟨a',hm',tb'⟩:=T.tab I2.kIn
 have ea:a'=a:=by rw [hm] at hm'; cases hm'; rfl
 subst ea
 refine ⟨tb'.ty,Zpg tb' (v:=.ref f) (by rw [Zgs,hk]; rfl) ?_⟩
 obtain ⟨pp,hpp,ef⟩:=Zzx hk
 have hkp:=T.kp pp hpp
 rw [ef] at hkp
 have I3:=I2.tok (s2.toks+1)
 exact PySem.W.callWith_K (h₀:=X.base) I3.ok.mod.kin hkp (thn (ha.ok pos pins _ σ H2 _ I3 q) λ us s4 ⟨vs,H4,I4,r,q4⟩=>q4.elim) (Yq he) (Wf hpl)
end L2
namespace L2
open PySem PySem.Spec PyProof.Rows
section
variable {X:Cx}
def Zsq (k:Int):V->List V->Hp->VK->Prop:=λ x xs H Q=>∃ z c,x=.str z/\xs=[.str ⟨#[c]⟩,.int k]/\z.length<=1000/\∀ q,H q=none->Q (.ref q) (upd H q (.lst ((Txt.splitMax z ⟨#[c]⟩ k).map V.str)))
theorem Zjx (z:Str) (c:Nat) (k:Int):(Txt.splitMax z ⟨#[c]⟩ k).length<=z.length+2:=by
 unfold Txt.splitMax
 split
 · show 1<=_; omega
 · split
   · show 1<=_; omega
   · rw [length_partsBetween]
     have:=StrLaws.occ_length_le_len z ⟨#[c]⟩ 0 z.length (limitOf z k)
     omega
theorem Zv5 {k:Int} (hk:(decide (k < -(2 ^ 63:Int)) || decide (k ≥ 2 ^ 63))=false):MtR X "str.split" (Zsq k):=by
 intro pins s σ H x xs v us Q I rx rv h
 obtain ⟨z,c,rfl,rfl,hz,q⟩:=h
 obtain ⟨t,rfl⟩:=rx
 obtain ⟨u,u2,rfl,⟨t2,rfl⟩,⟨t3,rfl⟩⟩:=rv.two
 have hlay:∀ (l:List (Str×Tok)) (j:Nat),l.map (·.1)=Txt.splitMax z ⟨#[c]⟩ k->EP X pins σ Q (.ref s.heap.objs.size) { s with heap:=s.heap.push { cls:=.type "list",data:=.seq (strValues l).toArray },toks:=j }:=λ l j e=>by
  have sz:=Zjx z c k
  have old:∀ b o,s.heap.get? b=some o->(s.heap.push { cls:=.type "list",data:=.seq (strValues l).toArray }).get? b=some o:=λ b o e=>Heap.get?_push_of_some _ e
  refine ⟨.ref _,_,I.laid (t':=j) old (Nat.le_refl _) (show ObjOk X.prog X.w _ (s.heap.push { cls:=.type "list",data:=.seq (strValues l).toArray }) _ (.lst ((Txt.splitMax z ⟨#[c]⟩ k).map V.str)) from ⟨?_,strValues l,0,?_,Heap.get?_push_size _ rfl⟩),rfl,q _ (I.hok.fresh (Nat.le_refl _))⟩
  · rw [List.length_map]; exact Nat.le_trans sz (Nat.le_trans (show z.length+2<=1002 by omega) (by decide))
  · rw [← e]; exact Zgq l
 have hy:((⟨#[c]⟩:Str).length == 0)=false:=rfl
 cases h1:(decide (z.length<(⟨#[c]⟩:Str).length) || decide (Builtin.Str.strKind z<Builtin.Str.strKind ⟨#[c]⟩))
 · cases hf:(Builtin.Str.occurrences z ⟨#[c]⟩ 0 z.length (limitOf z k)).isEmpty
   · refine call_meets F.slot_str_split (typeIs_str _ _ _) F.entry_str_split (F.args_str_split_3 _ _ _) (meets_str_split_sep_max z ⟨#[c]⟩ k t t2 t3 hk h1 hy hf (Nat.le_trans hz (by decide)) ?_) ?_
     · have:=StrLaws.occ_length_le_len z ⟨#[c]⟩ 0 z.length (limitOf z k)
       rw [length_partsBetween]
       exact Nat.le_trans (show _<=1002 by omega) (by decide)
     · show wants (EP X pins σ Q) X.xe _ { s with toks:=_,heap:=s.heap.push { cls:=.type "list",data:=.seq (strsFrom s.toks (Builtin.Str.partsBetween z (Builtin.Str.occurrences z ⟨#[c]⟩ 0 z.length (limitOf z k)) (⟨#[c]⟩:Str).length)).toArray } }
       rw [strsFrom_eq]
       exact hlay _ _ ((numbered_texts _ _).trans ((if_neg (ne_true_of_eq_false h1)).trans (if_neg (ne_true_of_eq_false hf))).symm)
   · refine call_meets F.slot_str_split (typeIs_str _ _ _) F.entry_str_split (F.args_str_split_3 _ _ _) (meets_str_split_max_not_found z ⟨#[c]⟩ k t t2 t3 hk h1 hy hf) ?_
     exact hlay [(z,t)] _ ((if_neg (ne_true_of_eq_false h1)).trans (if_pos hf)).symm
 · refine call_meets F.slot_str_split (typeIs_str _ _ _) F.entry_str_split (F.args_str_split_3 _ _ _) (meets_str_split_max_cannot_occur z ⟨#[c]⟩ k t t2 t3 hk h1) ?_
   exact hlay [(z,t)] _ (if_pos h1).symm
end
end L2
namespace L2
open PySem PySem.Spec PyProof.Rows
structure PEb (X:Cx) (e:Expr) (t:TE):Prop where
 ok:PE X e t
structure PSb (X:Cx) (st:Stmt) (t:TS):Prop where
 ok:PS X st t
structure PSsb (X:Cx) (st:List Stmt) (t:TS):Prop where
 ok:PSs X st t
section
variable {X:Cx} {e a b:Expr} {es:List Expr} {te ta tb:TE} {t:TA} {pos pos':Pos} {st:Stmt} {rest:List Stmt} {ts us:TS}
theorem X7 (h1:PSb X st ts) (h2:PSsb X rest us):PSsb X (st::rest) (Zv ts us):=⟨Zm h1.ok h2.ok⟩
theorem Zg4 (h1:PSb X st ts):PSsb X [st] ts:=⟨Zn h1.ok⟩
theorem Uo {i:Nat} {x:Str} (hN:X.N.Nodup) (hi:X.N[i]?=some x) (hx:Loc X.env.scope x) (he:PEb X e te) (hs:swapsWith e (some (.Name x pos')) pos.line X.env=pure false:=by rfl)
 (hf:X.fn x=true\/X.env.scope.names.lookup x=some .local:=by first | exact .inl rfl | exact .inr rfl | assumption):PSb X (.Assign [.Name x pos'] e pos) (Z6 te (Zt i)):=⟨Z8 hN hi hx he.ok hs hf⟩
theorem Zia {op:Operator} {r:R2} (ho:OpR X (binaryOp op) r) (ha:PEb X a ta) (hb:PEb X b tb):PEb X (.BinOp a op b pos) (tOp r ta tb):=⟨Zo ho ha.ok hb.ok⟩
theorem W3 (h:PB X es t):PEb X (.List es pos) (Xi t):=⟨Qc h⟩
theorem Zzl {r:R2} (hr:IxR X r) (ha:PEb X a ta) (hb:PEb X b tb) (hs:PlainIx b):PEb X (.Subscript a b pos) (tOp r ta tb):=⟨Z3 hr ha.ok hb.ok hs⟩
theorem Z1y (he:PEb X e te):PSb X (.Return (some e) pos) (Zz te):=⟨Zx he.ok⟩
end
theorem Fun.okb {P:Program} {w:World} {K:Fq} {mg:Str->Option Value} {base:Heap} {x qual:Str} {st:Stmt} {f:Addr} {fd:FuncData} {N ps:List Str} {k:Nat} {sp:Sp} (F:Fun K x qual st f fd) (S:FnScope N ps (Zq st)) (len:∀ vs H Q E,sp vs H Q E->vs.length=ps.length)
 (hbody:∀ (cdv:Value) (A:Around) (outer:List Env) (s:Shared) (H:Hp) (vs:List V) (Q:VK) (E:XK),Room k (A.deeper (envOfC qual (Zq st) s.heap.objs.size f cdv))->sp vs H Q E ->
  ∃ t,PSsb (cxOf CX0 P w K mg base N qual (Zq st) f cdv A outer s H E).nox (Xw st) t/\t { nx:=λ _ H'=>Q .non H',rt:=Q } (start N vs) H):FnOk P w K mg base CX0 (k+1) f fd ps sp :=
 F.ok S len λ cdv A outer s H vs Q E hr h=>let ⟨t,a,q⟩:=hbody cdv A outer s H vs Q E hr h; ⟨t,a.ok,q⟩
end L2
namespace K86
open PySem L2 LB
def decS (n:Int):Str:=Str.ofString (toString n)
theorem Vd (m:Nat):(decS (m:Int)).cps.toList=(Nat.toDigits 10 m).map Char.toNat:=PySem.W.KIN.signs_num m
theorem Zdc {m c:Nat} (h:c∈(decS (m:Int)).cps.toList):48<=c/\c<=57:=by
 rw [Vd] at h
 obtain ⟨ch,hch,e⟩:=List.mem_map.mp h
 rw [← e]
 exact PyProof.Rows.digit_range (Nat.isDigit_of_mem_toDigits (by decide) (by decide) hch)
theorem Z2u (m:Nat):(decS (m:Int)).cps.toList≠[]:=by
 rw [Vd]
 intro e
 exact Nat.toDigits_ne_nil (List.map_eq_nil_iff.mp e)
theorem X6 (x:Str):x.cps.toList.length=x.length:=Array.length_toList
theorem Zex {m k:Nat} (hk:0<k) (h:m<10 ^ k):1<=(decS (m:Int)).length/\(decS (m:Int)).length<=k:=by
 refine ⟨?_,?_⟩
 · have:=Z2u m
   rw [← X6]
   rcases Nat.eq_zero_or_pos (decS (m:Int)).cps.toList.length with z | z
   · exact absurd (List.length_eq_zero_iff.mp z) this
   · exact z
 · rw [← X6,Vd,List.length_map]
   exact (Nat.length_toDigits_le_iff (by decide) hk).mpr h
theorem Zyr:∀ {m:Nat},0<m->∀ c∈(Nat.toDigits 10 m).head?,c≠'0':=by
 intro m
 induction m using Nat.strongRecOn with
 | _ m ih =>
   intro h0 c hc
   by_cases h:m<10
   · rw [Nat.toDigits_of_lt_base h] at hc
     have:c=Nat.digitChar m:=by simpa using hc.symm
     rw [this]
     rcases (by omega:m=1\/m=2\/m=3\/m=4\/m=5\/m=6\/m=7\/m=8\/m=9) with z | z | z | z | z | z | z | z | z <;> subst z <;> decide
   · have hm:m % 10<10:=Nat.mod_lt m (by decide)
     have t:Nat.toDigits 10 (m / 10)++Nat.toDigits 10 (m % 10)=Nat.toDigits 10 (10*(m / 10)+m % 10):=Nat.toDigits_append_toDigits (by decide) (by omega) hm
     rw [Nat.div_add_mod] at t
     obtain ⟨a,r,e⟩:=List.exists_cons_of_ne_nil (Nat.toDigits_ne_nil (n:=m / 10) (b:=10))
     rw [← t,e] at hc
     exact ih (m / 10) (by omega) (by omega) c (by rw [e]; exact hc)
def sg (c:Nat):Str:=⟨#[c]⟩
theorem Yi (a y:Str):(a++y).cps.toList=a.cps.toList++y.cps.toList:=by rw [PySem.Str.cps_append,Array.toList_append]
theorem W5 {a b:Str} (h:a.cps.toList=b.cps.toList):a=b:=PySem.Str.ext' (Array.toList_inj.mp h)
theorem Q8 (s a b:Str) (r:List Str):Str.join s (a::b::r)=a++s++Str.join s (b::r):=rfl
theorem Zql (c:Nat):∀ {a b:List Nat} {x y:List Nat},c ∉ a->c ∉ b->a++c::x=b++c::y->a=b/\x=y
 | [],[],x,y,_,_,h=>⟨rfl,by simpa using h⟩
 | [],d::b,x,y,_,hb,h=>by
   have:c=d:=(List.cons.inj h).1
   exact absurd (by rw [this]; simp) hb
 | d::a,[],x,y,ha,_,h=>by
   have:d=c:=(List.cons.inj h).1
   exact absurd (by rw [this]; simp) ha
 | d::a,e::b,x,y,ha,hb,h=>by
   obtain ⟨h1,h2⟩:=List.cons.inj (show d::(a++c::x)=e::(b++c::y) from h)
   obtain ⟨h3,h4⟩:=Zql c (λ z=>ha (List.mem_cons_of_mem _ z)) (λ z=>hb (List.mem_cons_of_mem _ z)) h2
   exact ⟨by rw [h1,h3],h4⟩
theorem Zqw (c:Nat):∀ {as bs:List Str},as≠[]->bs≠[]->(∀ a∈as,c ∉ a.cps.toList)->(∀ b∈bs,c ∉ b.cps.toList)->Str.join (sg c) as=Str.join (sg c) bs->as=bs
 | [],_,h,_,_,_,_=>absurd rfl h
 | _::_,[],_,h,_,_,_=>absurd rfl h
 | [a],[b],_,_,_,_,h=>by rw [show a=b from h]
 | [a],b::d::r,_,_,ha,_,h=>by
   have h1:=congrArg (λ x:Str=>x.cps.toList) h
   have h2:a.cps.toList=b.cps.toList++[c]++(Str.join (sg c) (d::r)).cps.toList:=by
    rw [Q8] at h1
    simp only [Yi] at h1
    exact h1
   exact absurd (by rw [h2]; simp) (ha a (by simp))
 | a::d::r,[b],_,_,_,hb,h=>by
   have h1:=congrArg (λ x:Str=>x.cps.toList) h
   have h2:a.cps.toList++[c]++(Str.join (sg c) (d::r)).cps.toList=b.cps.toList:=by
    rw [Q8] at h1
    simp only [Yi] at h1
    exact h1
   exact absurd (by rw [← h2]; simp) (hb b (by simp))
 | a::d::r,b::e::q,_,_,ha,hb,h=>by
   have h1:=congrArg (λ x:Str=>x.cps.toList) h
   have h2:a.cps.toList++c::(Str.join (sg c) (d::r)).cps.toList=b.cps.toList++c::(Str.join (sg c) (e::q)).cps.toList:=by
    rw [Q8,Q8] at h1
    simpa [Yi,sg] using h1
   obtain ⟨h3,h4⟩:=Zql c (ha a (by simp)) (hb b (by simp)) h2
   have h5:=Zqw c (as:=d::r) (bs:=e::q) (by simp) (by simp) (λ x hx=>ha x (List.mem_cons_of_mem _ hx)) (λ x hx=>hb x (List.mem_cons_of_mem _ hx)) (W5 h4)
   rw [W5 h3,h5]
theorem Zxv (x:Str) (c:Nat):Txt.split x (sg c)≠[]:=by
 unfold Txt.split
 split
 · simp
 · split
   · simp
   · intro e
     have:=congrArg List.length e
     rw [length_partsBetween] at this
     simp at this
theorem U7 (c:Nat) {ws:List Str} (h0:ws≠[]) (h:∀ w∈ws,c ∉ w.cps.toList):Txt.split (Str.join (sg c) ws) (sg c)=ws :=
 Zqw c (Zxv _ c) h0 (StrLaws.split_free _ c) h (StrLaws.join_split _ _)
def Yk (p a:Int):Str:=decS a++sg 120++decS p
def Xd (ps as:List Int):Str:=Txt.join (sg 32) (List.zipWith Yk ps as)
theorem Zm7 (p a:Int):Yk p a=Str.join (sg 120) [decS a,decS p]:=rfl
theorem Uy {m c:Nat} (hc:c<48\/57<c):c ∉ (decS (m:Int)).cps.toList:=λ h=>by
 have:=Zdc h
 omega
theorem Ze2 (p a:Nat):Txt.split (Yk p a) (sg 120)=[decS a,decS p]:=by
 rw [Zm7]
 refine U7 120 (by simp) λ w hw=>?_
 rcases List.mem_cons.mp hw with rfl | hw
 · exact Uy (by omega)
 · rcases List.mem_cons.mp hw with rfl | hw
   · exact Uy (by omega)
   · cases hw
theorem Uh (p a:Nat):32 ∉ (Yk p a).cps.toList:=by
 unfold Yk
 rw [Yi,Yi]
 intro h
 rcases List.mem_append.mp h with h | h
 · rcases List.mem_append.mp h with h | h
   · exact Uy (by omega) h
   · have:32=120:=by simpa [sg] using h
     omega
 · exact Uy (by omega) h
theorem Uw (s:Str) (ws:List Str):Txt.join s ws=Str.join s ws:=StrLaws.glued_eq_join s ws
theorem Zhu {ps as:List Int} {w:Str} (h:w∈List.zipWith Yk ps as):∃ p a,w=Yk p a/\p∈ps/\a∈as:=by
 obtain ⟨i,hi⟩:=List.getElem?_of_mem h
 rw [List.getElem?_zipWith] at hi
 cases e1:ps[i]? with
 | none=>rw [e1] at hi; cases hi
 | some p =>
   cases e2:as[i]? with
   | none=>rw [e1,e2] at hi; cases hi
   | some a =>
     rw [e1,e2] at hi
     exact ⟨p,a,(Option.some.inj hi).symm,List.mem_of_getElem? e1,List.mem_of_getElem? e2⟩
theorem Ztn {ps as:List Int} (hl:as.length=ps.length) (h1:1<=ps.length) (hp:∀ x∈ps,0<=x) (ha:∀ x∈as,0<=x):Txt.split (Xd ps as) (sg 32)=List.zipWith Yk ps as:=by
 unfold Xd
 rw [Uw]
 refine U7 32 (λ e=>?_) λ w hw=>?_
 · have:=congrArg List.length e
   rw [List.length_zipWith] at this
   have z:min ps.length as.length=0:=this
   omega
 · obtain ⟨p,a,e,mp,ma⟩:=Zhu hw
   obtain ⟨p',rfl⟩:=Int.eq_ofNat_of_zero_le (hp p mp)
   obtain ⟨a',rfl⟩:=Int.eq_ofNat_of_zero_le (ha a ma)
   rw [e]
   exact Uh p' a'
theorem Ztt {m:Nat} (h:0<m):Txt.startswith (decS (m:Int)) ("0":Str)=false:=by
 unfold Txt.startswith
 rw [StrLaws.subAt_eq]
 have hd:=Zyr h
 obtain ⟨a,r,e⟩:=List.exists_cons_of_ne_nil (Nat.toDigits_ne_nil (n:=m) (b:=10))
 have ha:a≠'0':=hd a (by rw [e]; rfl)
 have hn:a.toNat≠48:=λ z=>ha (Char.toNat_inj.mp (show a.toNat=('0':Char).toNat from z))
 rw [Vd,e]
 have l1:("0":Str).length=1:=rfl
 have l2:("0":Str).cps.toList=[48]:=rfl
 rw [l1,l2]
 show (decide _ && ([a.toNat] == [48]))=false
 rw [Bool.and_eq_false_iff]
 exact .inr (by simp [hn])
theorem Zta {w:Str}:w.cps.all (· < 128)=true↔∀ c∈w.cps.toList,c<128:=by
 rw [Array.all_eq_true']
 constructor
 · intro h c hc
   exact of_decide_eq_true (h c (by simpa using hc))
 · intro h c hc
   exact decide_eq_true (h c (by simpa using hc))
def ascT (w:Str):Prop:=(∀ c∈w.cps.toList,c<128)/\w.length<=900
theorem Zqu {c:Nat} {s:Str}:∀ {ts:List Str} {t:Str},t∈ts->c∈t.cps.toList->c∈(Str.join s ts).cps.toList
 | [x],t,h,hc=>by
   have:t=x:=by simpa using h
   rw [this] at hc
   exact hc
 | x::y::r,t,h,hc=>by
   rw [Q8,Yi,Yi]
   rcases List.mem_cons.mp h with rfl | h
   · simp [hc]
   · exact List.mem_append.mpr (.inr (Zqu h hc))
theorem Zqv {s:Str}:∀ {ts:List Str} {t:Str},t∈ts->t.length<=(Str.join s ts).length
 | [x],t,h=>by
   have:t=x:=by simpa using h
   rw [this]
   exact Nat.le_refl _
 | x::y::r,t,h=>by
   rw [Q8,PySem.Str.length_append,PySem.Str.length_append]
   rcases List.mem_cons.mp h with rfl | h
   · omega
   · have:=Zqv (s:=s) h
     omega
theorem Znb {x:Str} {c:Nat} (h:ascT x):∀ p∈Txt.split x (sg c),ascT p:=λ p hp=>by
 have e:=StrLaws.join_split x (sg c)
 refine ⟨λ d hd=>h.1 d ?_,?_⟩
 · rw [← e]; exact Zqu hp hd
 · have:=Zqv (s:=sg c) hp
   rw [e] at this
   exact Nat.le_trans this h.2
theorem Zkt {s:Str} (hs:s.length=1):∀ ts:List Str,ts.length<=(Str.join s ts).length+1
 | []=>Nat.zero_le _
 | [x]=>by simp
 | x::y::r=>by
   have:=Zkt hs (y::r)
   rw [Q8,PySem.Str.length_append,PySem.Str.length_append,List.length_cons,hs]
   omega
theorem Zru {x:Str} {c:Nat} (h:ascT x):(Txt.split x (sg c)).length<=901:=by
 have:=Zkt (s:=sg c) rfl (Txt.split x (sg c))
 rw [StrLaws.join_split x (sg c)] at this
 have:=h.2
 omega
theorem ascT.len {w:Str} (h:ascT w):w.length<=1000:=Nat.le_trans h.2 (by decide)
def digB (w:Str):Bool:=w.cps.toList.all λ c=>decide (48<=c) && decide (c<=57)
theorem Z0x:∀ c,c<128->(!(Builtin.Str.occurrences ("0123456789":Str) ⟨#[c]⟩ 0 ("0123456789":Str).length 1).isEmpty)=(decide (48<=c) && decide (c<=57)):=by decide +kernel
def Zue (w:Str):Bool:=decide (1<w.length) && decide (w.cps.toList.getD 0 0=48)
def numB (w:Str):Bool:=(decide (1<=w.length) && decide (w.length<=19)) && digB w && (decide (w=("0":Str)) || !Txt.startswith w ("0":Str))
theorem Z05 {w:Str} (h:1<=w.length):∃ c r,w.cps.toList=c::r:=by
 rw [← X6] at h
 cases e:w.cps.toList with
 | nil=>rw [e] at h; simp at h
 | cons c r=>exact ⟨c,r,rfl⟩
theorem Zts {w:Str} {c:Nat} {r:List Nat} (e:w.cps.toList=c::r):Txt.startswith w ("0":Str)=(c == 48):=by
 have l1:("0":Str).length=1:=rfl
 have l2:("0":Str).cps.toList=[48]:=rfl
 have l3:w.length=r.length+1:=by rw [← X6,e]; rfl
 unfold Txt.startswith
 rw [StrLaws.subAt_eq,e,l1,l2,l3,decide_eq_true (show 0+1<=r.length+1 by omega),Bool.true_and]
 show ([c] == [48])=(c == 48)
 simp
theorem Z1f {w:Str} (h:1<=w.length):(decide (w=("0":Str)) || !Txt.startswith w ("0":Str))=!Zue w:=by
 obtain ⟨c,r,e⟩:=Z05 h
 have l3:w.length=r.length+1:=by rw [← X6,e]; rfl
 rw [Zts e]
 unfold Zue
 rw [e,l3]
 show (decide (w=("0":Str)) || !(c == 48))=!(decide (1<r.length+1) && decide (c=48))
 by_cases z:c=48
 · subst z
   cases r with
   | nil =>
     have:w=("0":Str):=W5 (by rw [e]; rfl)
     rw [decide_eq_true this]; rfl
   | cons d r =>
     have:¬ w=("0":Str):=λ q=>by rw [q] at l3; cases l3
     rw [decide_eq_false this]
     simp
 · simp [z]
def valN (w:Str):Nat:=NumText.digitsVal w.cps.toList
theorem Zc7 {w:Str} (h:numB w=true):1<=w.length/\w.length<=19/\digB w=true/\Zue w=false:=by
 unfold numB at h
 rw [Bool.and_eq_true,Bool.and_eq_true,Bool.and_eq_true] at h
 obtain ⟨⟨⟨a,b⟩,c⟩,d⟩:=h
 have a':=of_decide_eq_true a
 rw [Z1f a'] at d
 exact ⟨a',of_decide_eq_true b,c,by simpa using d⟩
theorem Zs1 {w:Str} (h1:1<=w.length) (h2:w.length<=19) (h3:digB w=true):PySem.intText? w=some ((valN w:Nat):Int):=by
 refine intText_digits (λ c hc=>?_) (λ e=>?_) (by omega)
 · have:=List.all_eq_true.mp h3 c hc
   rw [Bool.and_eq_true] at this
   exact ⟨of_decide_eq_true this.1,of_decide_eq_true this.2⟩
 · rw [← X6,e] at h1
   simp at h1
def prtA (w:Str):Str:=(Txt.split w (sg 120)).getD 0 Str.empty
def prtB (w:Str):Str:=(Txt.split w (sg 120)).getD 1 Str.empty
def twoB (w:Str):Bool:=decide ((Txt.split w (sg 120)).length=2)
def Q0 (w:Str):Bool:=twoB w && (numB (prtA w) && numB (prtB w))
theorem Zu9 {w:Str} (h:twoB w=true):Txt.split w (sg 120)=[prtA w,prtB w]:=by
 have h':=of_decide_eq_true h
 unfold prtA prtB
 generalize Txt.split w (sg 120)=l at h'
 match l,h' with
 | [a,b],_=>rfl
def Ql (T:Str):List Str:=Txt.split T (sg 32)
def Xn (T:Str):List Int×List Int:=((Ql T).map λ w=>((valN (prtB w):Nat):Int),(Ql T).map λ w=>((valN (prtA w):Nat):Int))
def Xm (T:Str):Bool:=(Ql T).all Q0 && Qs (dayD (Xn T))
theorem Zzm {f:PyData->Bool} {ns:List Int} (h:(ns.map PyData.int).all f=true):∀ x∈ns,f (.int x)=true:=λ x hx=>List.all_eq_true.mp h (.int x) (List.mem_map.mpr ⟨x,hx,rfl⟩)
theorem Z2v {d:List Int×List Int} (h:Qs (dayD d)=true):1<=d.1.length/\d.1.length<=6/\(∀ x∈d.1,1<=x/\x<=1000000000)/\(∀ x∈d.2,0<=x/\x<=1000000000000000000)/\∃ x∈d.2,0<x:=by
 have e:Qs (dayD d)=(((true && ((decide (1<=(d.1.map PyData.int).length) && decide ((d.1.map PyData.int).length<=6)) && (d.1.map PyData.int).all Zco)) && ((decide (1<=(d.2.map PyData.int).length) && decide ((d.2.map PyData.int).length<=6)) && (d.2.map PyData.int).all Zcp && (d.2.map PyData.int).any posD)) && decide ((d.1.map PyData.int).length=(d.2.map PyData.int).length)):=rfl
 rw [e] at h
 simp only [Bool.and_eq_true,Bool.true_and,decide_eq_true_eq,List.length_map] at h
 obtain ⟨⟨⟨⟨a1,a2⟩,a3⟩,⟨⟨a4,a5⟩,a6⟩,a7⟩,a8⟩:=h
 refine ⟨a1,a2,λ x hx=>?_,λ x hx=>?_,?_⟩
 · have:=Zzm a3 x hx
   have t:(decide (1<=x) && decide (x<=1000000000))=true:=this
   rw [Bool.and_eq_true] at t
   exact ⟨of_decide_eq_true t.1,of_decide_eq_true t.2⟩
 · have:=Zzm a6 x hx
   have t:(decide (0<=x) && decide (x<=1000000000000000000))=true:=this
   rw [Bool.and_eq_true] at t
   exact ⟨of_decide_eq_true t.1,of_decide_eq_true t.2⟩
 · obtain ⟨y,hy,py⟩:=List.any_eq_true.mp a7
   obtain ⟨x,hx,rfl⟩:=List.mem_map.mp hy
   exact ⟨x,hx,of_decide_eq_true py⟩
theorem Zqy {T:Str}:Xm T=true↔(∀ w∈Ql T,Q0 w=true/\1<=valN (prtB w)/\valN (prtB w)<=1000000000/\valN (prtA w)<=1000000000000000000)/\(Ql T).length<=6/\∃ w∈Ql T,0<valN (prtA w):=by
 unfold Xm
 rw [Bool.and_eq_true,List.all_eq_true]
 constructor
 · rintro ⟨h1,h2⟩
   obtain ⟨a,b,c,d,x,hx,x0⟩:=Z2v h2
   refine ⟨λ w hw=>⟨h1 w hw,?_⟩,by simpa [Xn] using b,?_⟩
   · have c':=c _ (List.mem_map.mpr ⟨w,hw,rfl⟩)
     have d':=d _ (List.mem_map.mpr ⟨w,hw,rfl⟩)
     omega
   · obtain ⟨w,hw,rfl⟩:=List.mem_map.mp hx
     exact ⟨w,hw,by omega⟩
 · rintro ⟨h1,h2,w,hw,w0⟩
   refine ⟨λ w hw=>(h1 w hw).1,?_⟩
   have l1:1<=(Ql T).length:=by
    cases e:Ql T with
    | nil=>rw [e] at hw; cases hw
    | cons a r=>simp
   exact (Zcq (n:=(Ql T).length) ⟨by simp [Xn],by simp [Xn],λ x hx=>by obtain ⟨v,hv,rfl⟩:=List.mem_map.mp hx; have:=h1 v hv; omega,λ x hx=>by obtain ⟨v,hv,rfl⟩:=List.mem_map.mp hx; have:=h1 v hv; omega,⟨_,List.mem_map.mpr ⟨w,hw,rfl⟩,by omega⟩⟩ l1 h2).1
theorem Zjw (s:Str) (c i:Nat):Builtin.Str.subAt s (sg c) i=true↔s.cps.toList[i]?=some c:=by
 show (s.cps.extract i (i+1) == #[c])=true↔_
 rw [beq_iff_eq,← Array.toList_inj,Array.toList_extract,List.extract_eq_drop_take,Nat.add_sub_cancel_left,← List.head?_drop]
 cases s.cps.toList.drop i <;> simp
theorem Zi7 {s y:Str} {hi lim:Nat} {m:List Nat}:∀ {l:List Nat} {st:Array Nat×Nat},(∀ i∈l,¬ Builtin.Str.subAt s y i=true)->forIn (l++m) st (StrLaws.occBody s y hi lim)=forIn m st (StrLaws.occBody s y hi lim)
 | [],_,_=>rfl
 | i::l,st,h=>by
   rw [List.cons_append,List.forIn_cons]
   unfold StrLaws.occBody
   rw [if_neg λ e=>h i (List.mem_cons_self ..) e.2]
   exact Zi7 λ j hj=>h j (List.mem_cons_of_mem _ hj)
theorem Zqn {s y:Str} {hi lim:Nat}:∀ {l:List Nat} {st:Array Nat×Nat},lim<=st.1.size->forIn l st (StrLaws.occBody s y hi lim)=pure st
 | [],_,_=>rfl
 | i::l,st,h=>by
   rw [List.forIn_cons]
   unfold StrLaws.occBody
   rw [if_neg λ e=>absurd e.1.1.1 (Nat.not_lt.mpr h)]
   exact Zqn h
theorem Zsu {s y:Str} {hi lim i:Nat} {m:List Nat} {st:Array Nat×Nat} (h1:st.1.size<lim) (h2:st.2<=i) (h3:i+y.length<=hi) (h4:Builtin.Str.subAt s y i=true):forIn (i::m) st (StrLaws.occBody s y hi lim)=forIn m (st.1.push i,i+y.length) (StrLaws.occBody s y hi lim):=by
 rw [List.forIn_cons]
 conv=>lhs; unfold StrLaws.occBody
 rw [if_pos ⟨⟨⟨h1,h2⟩,h3⟩,h4⟩]
 rfl
theorem Zpm {c:Nat} (hc:c<256) {a n t:Str} (ha:c ∉ a.cps.toList) (hn:c ∉ n.cps.toList):Txt.splitMax (a++sg c++n++sg c++t) (sg c) 2=[a,n,t]:=by
 have hl:(a++sg c++n++sg c++t).cps.toList=a.cps.toList++(c::(n.cps.toList++(c::t.cps.toList))):=by
  simp [Yi,sg]
 generalize a++sg c++n++sg c++t=z at hl ⊢
 have hz:z.length=a.length+n.length+t.length+2:=by
  rw [← X6 z,hl,← X6 a,← X6 n,← X6 t]
  simp; omega
 have la:=X6 a
 have ln:=X6 n
 have lt:=X6 t
 have e1:z.cps.toList[a.length]?=some c:=by
  rw [hl,List.getElem?_append_right (by omega),← la,Nat.sub_self]; rfl
 have e2:z.cps.toList[a.length+1+n.length]?=some c:=by
  rw [hl,List.getElem?_append_right (by omega),show a.length+1+n.length-a.cps.toList.length=n.length+1 by omega,List.getElem?_cons_succ,List.getElem?_append_right (by omega),← ln,Nat.sub_self]; rfl
 have n1:∀ i,i<a.length->z.cps.toList[i]?≠some c:=λ i hi e=>by
  rw [hl,List.getElem?_append_left (by omega)] at e
  exact ha (List.mem_of_getElem? e)
 have n2:∀ i,a.length+1<=i->i<a.length+1+n.length->z.cps.toList[i]?≠some c:=λ i h1 h2 e=>by
  rw [hl,List.getElem?_append_right (by omega),show i-a.cps.toList.length=(i-a.length-1)+1 by omega,List.getElem?_cons_succ,List.getElem?_append_left (by omega)] at e
  exact hn (List.mem_of_getElem? e)
 have ho:Builtin.Str.occurrences z (sg c) 0 z.length 2=[a.length,a.length+1+n.length]:=by
  rw [StrLaws.occ_eq,show z.length+1-0=a.length+(1+(n.length+(1+(t.length+1)))) by omega,← List.range'_append_1,Zi7 (λ i hi=>?_),Nat.zero_add,← List.range'_append_1,List.range'_one,List.singleton_append,Zsu (by show 0<2; omega) (Nat.zero_le _) (by show _+1<=_; omega) ((Zjw z c _).mpr e1),← List.range'_append_1,Zi7 (λ i hi=>?_),← List.range'_append_1,List.range'_one,List.singleton_append,Zsu (by show 1<2; omega) (by show _+1<=_; omega) (by show _+1<=_; omega) ((Zjw z c _).mpr e2),Zqn (by show 2<=2; omega)]
  · rfl
  · rw [Zjw]; have:=List.mem_range'_1.mp hi; exact n2 i (by omega) (by omega)
  · rw [Zjw]; have:=List.mem_range'_1.mp hi; exact n1 i (by omega)
 have hk:¬ (decide (z.length<(sg c).length) || decide (Builtin.Str.strKind z<Builtin.Str.strKind (sg c)))=true:=by
  have:Builtin.Str.strKind (sg c)=1:=by unfold Builtin.Str.strKind; rw [if_pos (by simp [sg,hc])]
  have h2:1<=Builtin.Str.strKind z:=by unfold Builtin.Str.strKind; split; exact Nat.le_refl _; split <;> omega
  have h3:(sg c).length=1:=rfl
  simp [this,h3]; omega
 unfold Txt.splitMax
 rw [if_neg hk,show limitOf z 2=2 from rfl,ho,if_neg (by simp),StrLaws.partsBetween_eq]
 show [Builtin.Str.strSub z 0 a.length,Builtin.Str.strSub z (a.length+1) (a.length+1+n.length),Builtin.Str.strSub z (a.length+1+n.length+1) z.length]=_
 congr 1
 · apply W5
   show (z.cps.extract 0 a.length).toList=_
   rw [Array.toList_extract,List.extract_eq_drop_take,hl,List.drop_zero,Nat.sub_zero,← la,List.take_left]
 congr 1
 · apply W5
   show (z.cps.extract _ _).toList=_
   rw [Array.toList_extract,List.extract_eq_drop_take,hl,← la,List.drop_append,List.drop_of_length_le (by omega),List.nil_append,show a.cps.toList.length+1-a.cps.toList.length=1 by omega,List.drop_succ_cons,List.drop_zero,← ln,Nat.add_sub_cancel_left,List.take_left]
 congr 1
 · apply W5
   show (z.cps.extract _ _).toList=_
   rw [Array.toList_extract,List.extract_eq_drop_take,hl,hz,← la,List.drop_append,List.drop_of_length_le (by omega),List.nil_append,show a.cps.toList.length+1+n.length+1-a.cps.toList.length=(n.length+1)+1 by omega,List.drop_succ_cons,List.drop_append,List.drop_of_length_le (by omega),List.nil_append,← ln,show n.cps.toList.length+1-n.cps.toList.length=1 by omega,List.drop_succ_cons,List.drop_zero,List.take_of_length_le (by omega)]
abbrev NoB (mg:Str->Option Value):Value:=.ref (clsA mg "NoBook")
abbrev NoN (mg:Str->Option Value):Value:=.ref (clsA mg "NoName")
abbrev Twi (mg:Str->Option Value):Value:=.ref (clsA mg "Twice")
def Zpw (K:Fq) (mg:Str->Option Value) (a:V) (H:Hp) (Q:VK) (E:XK):Prop:=∃ d:PyData,Rep H a d/\(Xo d=true->∀ H',Same H H'->Q (.bl true) H')/\(Xo d=false->∀ H',Same H H'->E (NoB mg) none H')
def Ziy (K:Fq) (mg:Str->Option Value):Sp:=sp1 (Zpw K mg)
def lowB (w:Str):Bool:=w.cps.toList.all λ c=>decide (97<=c) && decide (c<=122)
def Xb (w:Str):Bool:=(decide (1<=w.length) && decide (w.length<=8)) && lowB w
def Zj4 (K:Fq) (a:V) (H:Hp) (Q:VK) (E:XK):Prop:=∃ w,a=.str w/\ascT w/\∀ H',Same H H'->Q (.bl (Xb w)) H'
def Zfe (K:Fq):Sp:=sp1 (Zj4 K)
def Zgb (K:Fq) (mg:Str->Option Value) (a:V) (H:Hp) (Q:VK) (E:XK):Prop:=∃ w,a=.str w/\ascT w/\(Xb w=true->∀ H',Same H H'->Q .non H')/\(Xb w=false->∀ H',Same H H'->E (NoN mg) none H')
def W0 (K:Fq) (mg:Str->Option Value):Sp:=sp1 (Zgb K mg)
abbrev Kvs:=List (Str×V)
def dkv (kvs:Kvs):List (Key×V):=kvs.map λ p=>((Sum.inr p.1:Key),p.2)
abbrev Z2 (kvs:Kvs):List Str:=kvs.map (·.1)
structure Led (mg:Str->Option Value) (H:Hp) (v:V) (d:Addr) (kvs:Kvs):Prop where
 at_:∃ a dx,v=.ref a/\H a=some (.ins (clsA mg "Ledger") dx [("kept",.ref d)])
 kept:H d=some (.dK (dkv kvs))
 nd:(Z2 kvs).Nodup
 len:kvs.length<=8
def SameB (d:Addr) (H H':Hp):Prop:=∀ b o,b≠d->H b=some o->H' b=some o
def Zek (K:Fq) (mg:Str->Option Value) (a:V) (H:Hp) (Q:VK) (E:XK):Prop:=∃ p dx,a=.ref p/\H p=some (.ins (clsA mg "Ledger") dx [])/\∀ d,H d=none->Q .non (upd (upd H d (.dK [])) p (.ins (clsA mg "Ledger") dx [("kept",.ref d)]))
def Hw (K:Fq) (mg:Str->Option Value):Sp:=sp1 (Zek K mg)
def Zgg (K:Fq) (mg:Str->Option Value) (a b c e:V) (H:Hp) (Q:VK) (E:XK):Prop:=∃ (d:Addr) (kvs:Kvs) (nm:Str) (Ds:List PyData) (d1 d2:PyData),Led mg H a d kvs/\b=.str nm/\ascT nm/\Reps H (kvs.map (·.2)) Ds/\Rep H c d1/\Rep H e d2 /\
 (Xb nm=false->∀ H',Same H H'->E (NoN mg) none H')/\(Xb nm=true->nm∈Z2 kvs->∀ H',Same H H'->E (Twi mg) none H') /\
 (Xb nm=true->nm ∉ Z2 kvs->Xo (.tuple (Ds++[.tuple [d1,d2]]))=false->∀ H',Same H H'->E (NoB mg) none H') /\
 (Xb nm=true->nm ∉ Z2 kvs->Xo (.tuple (Ds++[.tuple [d1,d2]]))=true->∀ t H',SameB d H H'->H' t=some (.tup [c,e])->Led mg H' a d (kvs++[(nm,.ref t)])->Q .non H')
def Ez (K:Fq) (mg:Str->Option Value):Sp:=sp4 (Zgg K mg)
def Up (K:Fq) (mg:Str->Option Value) (a b:V) (H:Hp) (Q:VK) (E:XK):Prop:=∃ (d:Addr) (kvs:Kvs) (nm:Str),Led mg H a d kvs/\b=.str nm/\(nm∈Z2 kvs->Q .non H)/\(nm ∉ Z2 kvs->E (NoN mg) none H)
def Xy (K:Fq) (mg:Str->Option Value):Sp:=sp2 (Up K mg)
def Zej (K:Fq) (mg:Str->Option Value) (a b:V) (H:Hp) (Q:VK) (E:XK):Prop:=∃ (d:Addr) (kvs:Kvs) (nm:Str),Led mg H a d kvs/\b=.str nm/\(nm∈Z2 kvs->∀ H',SameB d H H'->Led mg H' a d (kvs.filter λ p=>!decide (p.1=nm))->Q .non H')/\(nm ∉ Z2 kvs->E (NoN mg) none H)
def Hv (K:Fq) (mg:Str->Option Value):Sp:=sp2 (Zej K mg)
def Zc3 (K:Fq) (mg:Str->Option Value) (a:V) (H:Hp) (Q:VK) (E:XK):Prop:=∃ (d:Addr) (kvs:Kvs),Led mg H a d kvs/\∀ p H',Same H H'->H p=none->H' p=some (.lst ((Z2 kvs).map V.str))->Q (.ref p) H'
def J3 (K:Fq) (mg:Str->Option Value):Sp:=sp1 (Zc3 K mg)
def Zel (K:Fq) (mg:Str->Option Value) (a:V) (H:Hp) (Q:VK) (E:XK):Prop:=∃ (d:Addr) (kvs:Kvs),Led mg H a d kvs/\(kvs=[]->E (NoB mg) none H)/\(kvs≠[]->∀ p H',Same H H'->H' p=some (.tup (kvs.map (·.2)))->Q (.ref p) H')
def Yx (K:Fq) (mg:Str->Option Value):Sp:=sp1 (Zel K mg)
def Hg (K:Fq) (mg:Str->Option Value) (a b:V) (H:Hp) (Q:VK) (E:XK):Prop:=∃ (d:Addr) (kvs:Kvs) (nm:Str),Led mg H a d kvs/\b=.str nm/\(∀ j,(Z2 kvs)[j]?=some nm->∀ H',Same H H'->Q (.int (j:Nat)) H')/\(nm ∉ Z2 kvs->E (NoN mg) none H)
def Xr (K:Fq) (mg:Str->Option Value):Sp:=sp2 (Hg K mg)
def Wj (K:Fq) (mg:Str->Option Value) (a b c:V) (H:Hp) (Q:VK) (E:XK):Prop:=∃ (d:Addr) (kvs:Kvs) (n1 n2:Str),Led mg H a d kvs/\b=.str n1/\c=.str n2/\(n1 ∉ Z2 kvs\/n2 ∉ Z2 kvs)/\∀ H',Same H H'->E (NoN mg) none H'
def Kh (K:Fq) (mg:Str->Option Value):Sp:=sp3 (Wj K mg)
def Qu (mg:Str->Option Value) (a:V) (H:Hp) (Q:VK) (E:XK):Prop:=∃ d,Led mg H a d []/\E (NoB mg) none H
def V1 (K:Fq) (mg:Str->Option Value):Sp:=sp2 (λ a b=>Qu mg a)
def Zaa (K:Fq) (mg:Str->Option Value):Sp:=sp1 (Qu mg)
def K4 (K:Fq) (mg:Str->Option Value):Sp:=sp1 (Qu mg)
def Ub (K:Fq) (mg:Str->Option Value):Sp:=sp1 (Qu mg)
def Zg5 (K:Fq) (a:V) (H:Hp) (Q:VK) (E:XK):Prop:=∃ w,a=.str w/\ascT w/\∀ H',Same H H'->Q (.bl (numB w)) H'
def Zbs (K:Fq):Sp:=sp1 (Zg5 K)
def Zga (K:Fq) (mg:Str->Option Value) (a:V) (H:Hp) (Q:VK) (E:XK):Prop:=∃ b,a=.bl b/\(b=true->Q .non H)/\(b=false->E (.ref (clsA mg "NoText")) none H)
def Wz (K:Fq) (mg:Str->Option Value):Sp:=sp1 (Zga K mg)
def Zg3 (K:Fq) (mg:Str->Option Value) (a:V) (H:Hp) (Q:VK) (E:XK):Prop:=∃ w,a=.str w/\ascT w/\(Q0 w=true->∀ t H',Same H H'->H' t=some (.tup [.int (valN (prtA w):Nat),.int (valN (prtB w):Nat)])->Q (.ref t) H')/\(Q0 w=false->∀ H',Same H H'->E (.ref (clsA mg "NoText")) none H')
def Zbr (K:Fq) (mg:Str->Option Value):Sp:=sp1 (Zg3 K mg)
def Zij (K:Fq) (mg:Str->Option Value) (a:V) (H:Hp) (Q:VK) (E:XK):Prop:=∃ T,a=.str T/\ascT T/\(Xm T=true->∀ v H',Same H H'->Rep H' v (dayD (Xn T))->Q v H')/\(Xm T=false->∀ H',Same H H'->E (.ref (clsA mg "NoText")) none H')
def Zdm (K:Fq) (mg:Str->Option Value):Sp:=sp1 (Zij K mg)
structure LedB (mg:Str->Option Value) (H:Hp) (v:V) (d:Addr) (kvs:Kvs) (B:List (List Int×List Int)) (n:Nat):Prop where
 led:Led mg H v d kvs
 reps:Reps H (kvs.map (·.2)) (B.map dayD)
 good:∀ x∈B,GoodDay n x
 n1:1<=n
 n4:n<=6
def Hz (K:Fq) (mg:Str->Option Value) (a b c:V) (H:Hp) (Q:VK) (E:XK):Prop:=∃ (d:Addr) (kvs:Kvs) (n1 n2:Str),Led mg H a d kvs/\b=.str n1/\c=.str n2 /\
 ((n1 ∉ Z2 kvs\/n2 ∉ Z2 kvs)->∀ H',Same H H'->E (NoN mg) none H') /\
 (n1∈Z2 kvs->n2∈Z2 kvs->∃ (B:List (List Int×List Int)) (n i j:Nat),LedB mg H a d kvs B n/\(Z2 kvs)[i]?=some n1/\(Z2 kvs)[j]?=some n2/\∀ H',Same H H'->Q (.int (Jd B i j)) H')
def Hx (K:Fq) (mg:Str->Option Value):Sp:=sp3 (Hz K mg)
def Vg (ks:List Str):Str:=if ks=[] then "-" else Txt.join (sg 32) ks
def Znc (K:Fq) (a:V) (H:Hp) (Q:VK) (E:XK):Prop:=∃ (l:Addr) (ks:List Str),a=.ref l/\H l=some (.lst (ks.map V.str))/\JoinOk (sg 32) ks=true/\ks.length<=100/\Q (.str (Vg ks)) H
def G7 (K:Fq):Sp:=sp1 (Znc K)
def Zef (K:Fq) (mg:Str->Option Value) (a:V) (H:Hp) (Q:VK) (E:XK):Prop:=∃ (d:Addr) (kvs:Kvs),Led mg H a d kvs/\JoinOk (sg 32) (Z2 kvs)=true/\∀ H',Same H H'->Q (.str (Vg (Z2 kvs))) H'
def U9 (K:Fq) (mg:Str->Option Value):Sp:=sp1 (Zef K mg)
def U8 (K:Fq) (mg:Str->Option Value):Sp:=sp1 (Qu mg)
def Vv (K:Fq) (mg:Str->Option Value):Sp:=sp1 (Qu mg)
def Ud (K:Fq) (mg:Str->Option Value):Sp:=sp1 (Qu mg)
def Ka (K:Fq) (mg:Str->Option Value):Sp:=sp1 (Qu mg)
def Zii (K:Fq) (mg:Str->Option Value) (a b:V) (H:Hp) (Q:VK) (E:XK):Prop:=∃ (d:Addr) (kvs:Kvs) (nm:Str),Led mg H a d kvs/\b=.str nm/\nm ∉ Z2 kvs/\E (NoN mg) none H
def G4 (K:Fq) (mg:Str->Option Value):Sp:=sp2 (Zii K mg)
def Zc8 (w:Str):Bool:=decide (w∈[("money":Str),"steady","sums","mix","parts","total"])
def Zf8 (K:Fq) (mg:Str->Option Value) (a b:V) (H:Hp) (Q:VK) (E:XK):Prop:=∃ (d:Addr) (kvs:Kvs) (w:Str),Led mg H a d kvs/\b=.str w/\((Zc8 w=false/\E (.ref (clsA mg "NoRow")) none H)\/(Zc8 w=true/\kvs=[]/\E (NoB mg) none H))
def Ks (K:Fq) (mg:Str->Option Value):Sp:=sp2 (Zf8 K mg)
def Zj3 (K:Fq) (mg:Str->Option Value) (a b c:V) (H:Hp) (Q:VK) (E:XK):Prop:=∃ (d:Addr) (kvs:Kvs) (nm T:Str) (B:List (List Int×List Int)),Led mg H a d kvs/\b=.str nm/\c=.str T/\ascT nm/\ascT T/\Reps H (kvs.map (·.2)) (B.map dayD) /\
 (Xb nm=false->∀ H',Same H H'->E (NoN mg) none H')/\(Xb nm=true->Xm T=false->∀ H',Same H H'->E (.ref (clsA mg "NoText")) none H') /\
 (Xb nm=true->Xm T=true->nm∈Z2 kvs->∀ H',Same H H'->E (Twi mg) none H') /\
 (Xb nm=true->Xm T=true->nm ∉ Z2 kvs->Xo (Qd (B++[Xn T]))=false->∀ H',Same H H'->E (NoB mg) none H') /\
 (Xb nm=true->Xm T=true->nm ∉ Z2 kvs->Xo (Qd (B++[Xn T]))=true->∀ v H',SameB d H H'->Rep H' v (dayD (Xn T))->Led mg H' a d (kvs++[(nm,v)])->Q (.str "ok") H')
def Zay (K:Fq) (mg:Str->Option Value):Sp:=sp3 (Zj3 K mg)
def Zf9 (K:Fq) (mg:Str->Option Value) (a b c:V) (H:Hp) (Q:VK) (E:XK):Prop:=Hz K mg a b c H (λ v H'=>∃ n:Nat,v=.int n/\n<10 ^ 40/\Q (.str (decS n)) H') E
def Ku (K:Fq) (mg:Str->Option Value):Sp:=sp3 (Zf9 K mg)
def Kr (K:Fq) (mg:Str->Option Value):Sp:=sp3 (Wj K mg)
def Yg (z:Str):List Str:=if Txt.startswith z "put "=true then Txt.splitMax z (sg 32) 2 else Txt.split z (sg 32)
def Zih (K:Fq) (a:V) (H:Hp) (Q:VK) (E:XK):Prop:=∃ z,a=.str z/\z.length<=1000/\∀ l H',Same H H'->H' l=some (.lst ((Yg z).map V.str))->Q (.ref l) H'
def Zdl (K:Fq):Sp:=sp1 (Zih K)
structure Dsk (mg:Str->Option Value) (H:Hp) (v:V) (d:Addr) (kvs:Kvs):Prop where
 ex:∃ a dx l,v=.ref a/\H a=some (.ins (clsA mg "Desk") dx [("ledger",l)])/\Led mg H l d kvs
def Zhd (K:Fq) (mg:Str->Option Value) (a:V) (H:Hp) (Q:VK) (E:XK):Prop:=∃ p dx,a=.ref p/\H p=some (.ins (clsA mg "Desk") dx [])/\∀ d H',(∀ b o,b≠p->H b=some o->H' b=some o)->Dsk mg H' a d []->H d=none->Q .non H'
def Wo (K:Fq) (mg:Str->Option Value):Sp:=sp1 (Zhd K mg)
inductive Rk where
 | row | name | text | twice | book
def Rk.cls (mg:Str->Option Value):Rk->Addr
 | .row=>clsA mg "NoRow"
 | .name=>clsA mg "NoName"
 | .text=>clsA mg "NoText"
 | .twice=>clsA mg "Twice"
 | .book=>clsA mg "NoBook"
def Rk.txt:Rk->Str
 | .row=>"row"
 | .name=>"name"
 | .text=>"text"
 | .twice=>"twice"
 | .book=>"book"
def rowB (ws:List Str):Bool:=(decide (ws.length=1) && decide (ws.getD 0 ""∈[("days":Str),"taste","cut","leave","hands"])) || (decide (ws.length=2) && decide (ws.getD 0 ""∈[("take":Str),"kind"])) || (decide (ws.length=3) && decide (ws.getD 0 ""∈[("put":Str),"cost","better"]))
def RefW (kvs:Kvs) (B:List (List Int×List Int)) (ws:List Str) (r:Rk):Prop :=
 (ws≠[]/\rowB ws=false/\r=.row) \/
 (∃ w,ws=[("kind":Str),w]/\Zc8 w=false/\r=.row) \/
 ((ws=[("taste":Str)]\/ws=[("cut":Str)]\/ws=[("leave":Str)]\/ws=[("hands":Str)])/\kvs=[]/\r=.book) \/
 (∃ w,ws=[("kind":Str),w]/\Zc8 w=true/\kvs=[]/\r=.book) \/
 (∃ nm,ws=[("take":Str),nm]/\nm ∉ Z2 kvs/\r=.name) \/
 (∃ n1 n2,(ws=[("cost":Str),n1,n2]\/ws=[("better":Str),n1,n2])/\(n1 ∉ Z2 kvs\/n2 ∉ Z2 kvs)/\r=.name) \/
 (∃ nm T,ws=[("put":Str),nm,T]/\ascT nm/\ascT T/\((Xb nm=false/\r=.name)\/(Xb nm=true/\Xm T=false/\r=.text)\/(Xb nm=true/\Xm T=true/\nm∈Z2 kvs/\r=.twice) \/
  (Xb nm=true/\Xm T=true/\nm ∉ Z2 kvs/\Xo (Qd (B++[Xn T]))=false/\r=.book)))
def Zin (K:Fq) (mg:Str->Option Value) (a b:V) (H:Hp) (Q:VK) (E:XK):Prop:=∃ (d:Addr) (kvs:Kvs) (B:List (List Int×List Int)) (z:Str),Dsk mg H a d kvs/\b=.str z/\z.length<=1000/\Reps H (kvs.map (·.2)) (B.map dayD) /\
 ((∃ r,RefW kvs B (Yg z) r/\∀ H',Same H H'->E (.ref (r.cls mg)) none H') \/
  (Yg z=[("days":Str)]/\JoinOk (sg 32) (Z2 kvs)=true/\∀ H',Same H H'->Q (.str (Vg (Z2 kvs))) H') \/
  (∃ n1 n2 n i j,Yg z=[("cost":Str),n1,n2]/\(Z2 kvs)[i]?=some n1/\(Z2 kvs)[j]?=some n2/\GoodBook kvs.length n B/\1<=n/\n<=6/\∀ m H',Jd B i j=((m:Nat):Int)->Same H H'->Q (.str (decS m)) H') \/
  (∃ nm T,Yg z=[("put":Str),nm,T]/\ascT nm/\ascT T/\Xb nm=true/\Xm T=true/\nm ∉ Z2 kvs/\Xo (Qd (B++[Xn T]))=true/\∀ v H',SameB d H H'->Rep H' v (dayD (Xn T))->Dsk mg H' a d (kvs++[(nm,v)])->Q (.str "ok") H'))
def Xg (K:Fq) (mg:Str->Option Value):Sp:=sp2 (Zin K mg)
def Zc0 (K:Fq) (mg:Str->Option Value) (a b:V) (H:Hp) (Q:VK) (E:XK):Prop:=∃ (d:Addr) (kvs:Kvs) (B:List (List Int×List Int)) (z:Str) (r:Rk),Dsk mg H a d kvs/\b=.str z/\z.length<=1000/\Reps H (kvs.map (·.2)) (B.map dayD)/\RefW kvs B (Yg z) r/\∀ H',Same H H'->Q (.str r.txt) H'
def Xj (K:Fq) (mg:Str->Option Value):Sp:=sp2 (Zc0 K mg)
def Zg7 (K:Fq) (a:V) (H:Hp) (Q:VK) (E:XK):Prop:=∃ (n:Nat) (g:List Int×List Int),Rep H a (dayD g)/\GoodDay n g/\1<=n/\n<=6/\∀ H',Same H H'->Q (.str (Xd g.1 g.2)) H'
def Jp (K:Fq):Sp:=sp1 (Zg7 K)
def Zeh (K:Fq) (a:V) (H:Hp) (Q:VK) (E:XK):Prop:=∃ c:Int,a=.int c/\∀ z H',Same H H'->z.length<=20->(∀ kvs B,RefW kvs B (Yg z) .row)->Q (.str z) H'
def Hu (K:Fq):Sp:=sp1 (Zeh K)
def KeysOk (ks:List Str):Prop:=ks≠[]/\("zz":Str) ∉ ks/\("new":Str) ∉ ks/\∀ k∈ks,ascT k/\Xb k=true
def Zc2 (K:Fq) (a b:V) (H:Hp) (Q:VK) (E:XK):Prop:=∃ (c:Int) (T:Str),a=.int c/\b=.str T/\ascT T/\T.length<=300/\∀ z H',Same H H'->z.length<=400->(∀ kvs B,KeysOk (Z2 kvs)->RefW kvs B (Yg z) .name)->Q (.str z) H'
def Vz (K:Fq):Sp:=sp2 (Zc2 K)
def Zc1 (K:Fq) (a b c:V) (H:Hp) (Q:VK) (E:XK):Prop:=∃ (cc:Int) (nm:Str) (n:Nat) (g:List Int×List Int),a=.int cc/\b=.str nm/\ascT nm/\Xb nm=true/\c=.str (Xd g.1 g.2)/\GoodDay n g/\1<=n/\n<=4/\∀ z H',Same H H'->z.length<=400->(∀ kvs B,RefW kvs B (Yg z) .text)->Q (.str z) H'
def Vy (K:Fq):Sp:=sp3 (Zc1 K)
def CaseOk (H:Hp) (kvs:Kvs) (B:List (List Int×List Int)) (v:V):Prop:=∃ l z r,v=.ref l/\H l=some (.lst [.str (Rk.txt r),.str z])/\z.length<=1000/\RefW kvs B (Yg z) r
def Zgf (K:Fq) (a b c:V) (H:Hp) (Q:VK) (E:XK):Prop:=∃ (cc:Int) (l:Addr) (kvs:Kvs) (B:List (List Int×List Int)) (n:Nat) (g:List Int×List Int),a=.int cc/\b=.ref l/\H l=some (.lst ((Z2 kvs).map V.str))/\KeysOk (Z2 kvs)/\GoodBook kvs.length n B/\1<=n/\n<=4/\Rep H c (dayD g)/\GoodDay n g /\
 ∀ q vs H',Same H H'->H' q=some (.lst vs)->vs.length=5->(∀ v∈vs,CaseOk H' kvs B v)->Q (.ref q) H'
def Ey (K:Fq):Sp:=sp3 (Zgf K)
def Zcz (K:Fq) (mg:Str->Option Value) (a b:V) (H:Hp) (Q:VK) (E:XK):Prop:=∃ (c:Int) (T:Str),a=.int c/\b=.str T/\ascT T/\T.length<=300/\∀ H',Same H H'->Q (.bl true) H'
def Vx (K:Fq) (mg:Str->Option Value):Sp:=sp2 (Zcz K mg)
def Z1v (K:Fq) (mg:Str->Option Value):Sp:=sp1 (Zpv K)
def Uk (mg:Str->Option Value):List (Str×Addr):=[("money",clsA mg "by_money"),("steady",clsA mg "by_steady"),("sums",clsA mg "by_sums"),("mix",clsA mg "by_mix"),("parts",clsA mg "by_parts"),("total",clsA mg "by_total")]
def Ul (mg:Str->Option Value):List (Str×Addr):=[("days",clsA mg "shown_names"),("taste",clsA mg "shown_taste"),("cut",clsA mg "shown_cut"),("leave",clsA mg "shown_fewest"),("hands",clsA mg "shown_hands")]
def Jo (mg:Str->Option Value):List (Str×Addr):=[("take",clsA mg "take_day"),("kind",clsA mg "shown_kind")]
def Jm (mg:Str->Option Value):List (Str×Addr):=[("put",clsA mg "put_day"),("cost",clsA mg "shown_cost"),("better",clsA mg "shown_mark")]
def Ziv (K:Fq) (mg:Str->Option Value) (E:XK):TS :=
 (Zv (Y0 (Kf (Ua K (Z7 (Zff K) [] E0 (Za (Zc 0) Zg)))) (Wm E (.ref (clsA mg "NoBook")) (Za (tC (.str "this is no book")) Zg)) Yl)
  (Zz (tC (.bl true))))
def Zfa (K:Fq):TS :=
 (Zz (U6 (Vu rLeU rLeU (tC (.int 1)) (tCB (rLenU K) (Za (Zc 0) Zg)) (tC (.int 8))) (tCB (rAllU K) (Za (Xq [none] (iStr (Zc 0)) (Zt 0) Qa (tOp rInS (Zc 0) (tC (.str "abcdefghijklmnopqrstuvwxyz")))) Zg))))
def Em (K:Fq) (mg:Str->Option Value) (E:XK):TS :=
 (Y0 (Kf (Ua K (Z7 (Zfe K) [] E0 (Za (Zc 0) Zg)))) (Wm E (.ref (clsA mg "NoName")) (Za (tC (.str "a name is one to eight small letters")) Zg)) Yl)
def Hq (K:Fq) (mg:Str->Option Value):TS :=
 (sFld K (Zc 0) Ztq "kept")
def Es (K:Fq) (mg:Str->Option Value) (E:XK):TS :=
 (Zv (J2 (Z7 (W0 K mg) [] E (Za (Zc 1) Zg)))
  (Zv (Y0 (tB (Zxt (Zc 1) (Kg K (Zc 0) "kept"))) (Wm E (.ref (clsA mg "Twice")) (Za (tC (.str "a day of this name stands")) Zg)) Yl)
  (Zv (Z6 (Vt (Za (Zc 2) (Za (Zc 3) Zg))) (Zt 4))
  (Zv (J2 (Z7 (Ziy K mg) [] E (Za (tOp (rAddU K) (tCB Zkf (Za (Zgx (Kg K (Zc 0) "kept")) Zg)) (Vt (Za (Zc 4) Zg))) Zg)))
  (Zaz (Kg K (Zc 0) "kept") (Zc 1) (Zc 4))))))
def Jl (K:Fq) (mg:Str->Option Value) (E:XK):TS :=
 (Y0 (tB (Zlw (Zc 1) (Kg K (Zc 0) "kept"))) (Wm E (.ref (clsA mg "NoName")) (Za (tC (.str "no day of this name stands")) Zg)) Yl)
def Ho (K:Fq) (mg:Str->Option Value) (E:XK):TS :=
 (Zv (J2 (Yw (clsA mg "Ledger") "check_standing" (Xy K mg) [] E (Zc 0) (Za (Zc 1) Zg)))
  (J2 (Zpi (Kg K (Zc 0) "kept") (Zc 1))))
def Vs (K:Fq) (mg:Str->Option Value):TS :=
 (Zz (tCB Zqb (Za (Kg K (Zc 0) "kept") Zg)))
def Hs (K:Fq) (mg:Str->Option Value) (E:XK):TS :=
 (Zv (Y0 (Y4 (tOp (rEqU K) (tCB Zt2 (Za (Kg K (Zc 0) "kept") Zg)) (tC (.int 0)))) (Wm E (.ref (clsA mg "NoBook")) (Za (tC (.str "the ledger has no days")) Zg)) Yl)
  (Zz (tCB Zkf (Za (Zgx (Kg K (Zc 0) "kept")) Zg))))
def W9 (K:Fq) (mg:Str->Option Value) (E:XK):TS :=
 (Zv (J2 (Yw (clsA mg "Ledger") "check_standing" (Xy K mg) [] E (Zc 0) (Za (Zc 1) Zg)))
  (Zz (tBM K "list" Zmk (Yw (clsA mg "Ledger") "names" (J3 K mg) [] E0 (Zc 0) Zg) (Za (Zc 1) Zg))))
def Hr (K:Fq) (mg:Str->Option Value) (E:XK):TS :=
 (Zv (Z6 (Yw (clsA mg "Ledger") "number_of" (Xr K mg) [] E (Zc 0) (Za (Zc 1) Zg)) (Zt 3))
  (Zv (Z6 (Yw (clsA mg "Ledger") "number_of" (Xr K mg) [] E (Zc 0) (Za (Zc 2) Zg)) (Zt 4))
  (Zz (Z7 (Zlz K mg) [] E (Za (Yw (clsA mg "Ledger") "book" (Yx K mg) [] E (Zc 0) Zg) (Za (Zc 3) (Za (Zc 4) Zg)))))))
def Ke (K:Fq) (mg:Str->Option Value) (E:XK):TS :=
 (Zv (Z6 (Yw (clsA mg "Ledger") "number_of" (Xr K mg) [] E (Zc 0) (Za (Zc 1) Zg)) (Zt 3))
  (Zv (Z6 (Yw (clsA mg "Ledger") "number_of" (Xr K mg) [] E (Zc 0) (Za (Zc 2) Zg)) (Zt 4))
  J0))
def Vr (K:Fq) (mg:Str->Option Value) (E:XK):TS :=
 (Zv (Z6 (Za8 (Za (Yw (clsA mg "Ledger") "book" (Yx K mg) [] E (Zc 0) Zg) (Za (Zc 1) Zg))) (Zt 2))
  (Zv J0
  J0))
def Et (K:Fq) (mg:Str->Option Value) (E:XK):TS :=
 (Zz (Za8 (Za (Yw (clsA mg "Ledger") "book" (Yx K mg) [] E (Zc 0) Zg) Zg)))
def K3 (K:Fq) (mg:Str->Option Value) (E:XK):TS :=
 (Zz (Yw (clsA mg "Ledger") "names_of" spNo [] E0 (Zc 0) (Za (Za8 (Za (Yw (clsA mg "Ledger") "book" (Yx K mg) [] E (Zc 0) Zg) Zg)) Zg)))
def W8 (K:Fq) (mg:Str->Option Value) (E:XK):TS :=
 (Zv (Z6 (Za8 (Za (Yw (clsA mg "Ledger") "book" (Yx K mg) [] E (Zc 0) Zg) Zg)) (Zt 1))
  (Zv J0
  J0))
def Zbh (K:Fq):TS :=
 (Zv (Y0 (tOr (Kf (Y4 (Vu rLeU rLeU (tC (.int 1)) (tCB (rLenU K) (Za (Zc 0) Zg)) (tC (.int 19))))) (Kf (Ua K (tCB (rAllU K) (Za (Xq [none] (iStr (Zc 0)) (Zt 0) Qa (tOp rInS (Zc 0) (tC (.str "0123456789")))) Zg))))) (Zz (tC (.bl false))) Yl)
  (Zz (Zxs (tOp (rEqU K) (Zc 0) (tC (.str "0"))) (Zou (tBM K "str" Zmj (Zc 0) (Za (tC (.str "0")) Zg))))))
def El (K:Fq) (mg:Str->Option Value) (E:XK):TS :=
 (Y0 (Kf (Ua K (Zc 0))) (Wm E (.ref (clsA mg "NoText")) (Za (tC (.str "this text is no day")) Zg)) Yl)
def Zbg (K:Fq) (mg:Str->Option Value) (E:XK):TS :=
 (Zv (Z6 (tBM K "str" Zkg (Zc 0) (Za (tC (.str "x")) Zg)) (Zt 1))
  (Zv (J2 (Z7 (Wz K mg) [] E (Za (U6 (tOp (rEqU K) (tCB (rLenU K) (Za (Zc 1) Zg)) (tC (.int 2))) (tCB (rAllU K) (Za (Xq [none] (iSeq K (Zc 1)) (Zt 0) Qa (Z7 (Zbs K) [] E0 (Za (Zc 0) Zg))) Zg))) Zg)))
  (Zz (Vt (Za (tCB Zt3 (Za (tOp (rIx K) (Zc 1) (tC (.int 0))) Zg)) (Za (tCB Zt3 (Za (tOp (rIx K) (Zc 1) (tC (.int 1))) Zg)) Zg))))))
def Zdg (K:Fq) (mg:Str->Option Value) (E:XK):TS :=
 (Zv (Z6 (Xq [none] (iSeq K (tBM K "str" Zkg (Zc 0) (Za (tC (.str " ")) Zg))) (Zt 0) Qa (Z7 (Zbr K mg) [] E (Za (Zc 0) Zg))) (Zt 1))
  (Zv (Z6 (Vt (Za (tCB (rTy_tuple K) (Za (Xq [none] (iSeq K (Zc 1)) (Zt 0) Qa (tOp (rIx K) (Zc 0) (tC (.int 1)))) Zg)) (Za (tCB (rTy_tuple K) (Za (Xq [none] (iSeq K (Zc 1)) (Zt 0) Qa (tOp (rIx K) (Zc 0) (tC (.int 0)))) Zg)) Zg))) (Zt 2))
  (Zv (J2 (Z7 (Wz K mg) [] E (Za (Z7 (G9 K) [] E0 (Za (Zc 2) Zg)) Zg)))
  (Zz (Zc 2)))))
def Zgt (K:Fq):TS :=
 (Zv (Y0 (Y4 (tOp (rEqU K) (tCB (rLenU K) (Za (Zc 0) Zg)) (tC (.int 0)))) (Zz (tC (.str "-"))) Yl)
  (Zz (tBM K "str" (Zfq K) (tC (.str " ")) (Za (Zc 0) Zg))))
def Hj (K:Fq) (mg:Str->Option Value) (E:XK):TS :=
 (Zz (Z7 (G7 K) [] E0 (Za (Yw (clsA mg "Ledger") "names" (J3 K mg) [] E0 (Zc 0) Zg) Zg)))
def Hi (K:Fq) (mg:Str->Option Value) (E:XK):TS :=
 (Zv (Z6 (Yw (clsA mg "Ledger") "taste" (V1 K mg) [.non] E (Zc 0) Zg) (Zt 1))
  (Zv J0
  J0))
def Zbf (K:Fq) (mg:Str->Option Value) (E:XK):TS :=
 (Zv (Z6 (Yw (clsA mg "Ledger") "cut" (Zaa K mg) [] E (Zc 0) Zg) (Zt 1))
  J0)
def Vl (K:Fq) (mg:Str->Option Value) (E:XK):TS :=
 (Zz (Z7 (G7 K) [] E0 (Za (Yw (clsA mg "Ledger") "fewest" (K4 K mg) [] E (Zc 0) Zg) Zg)))
def Hk (K:Fq) (mg:Str->Option Value) (E:XK):TS :=
 (Zv (Z6 (Yw (clsA mg "Ledger") "two_hands" (Ub K mg) [] E (Zc 0) Zg) (Zt 1))
  (Zv J0
  J0))
def Zdf (K:Fq) (mg:Str->Option Value) (E:XK):TS :=
 (Zv (J2 (Yw (clsA mg "Ledger") "take" (Hv K mg) [] E (Zc 0) (Za (Zc 1) Zg)))
  (Zz (tC (.str "ok"))))
def Ej (K:Fq) (mg:Str->Option Value) (E:XK):TS :=
 (Zv (Y0 (tB (Zlu (Uk mg) (Zc 1))) (Wm E (.ref (clsA mg "NoRow")) (Za (tC (.str "there is no such kind")) Zg)) Yl)
  (Zz (tIf (Ua K (Ziw (Uk mg) (Zc 1) (Za (Yw (clsA mg "Ledger") "book" (Yx K mg) [] E (Zc 0) Zg) Zg))) (tC (.str "yes")) (tC (.str "no")))))
def Ze9 (K:Fq) (mg:Str->Option Value) (E:XK):TS :=
 (Zv (J2 (Z7 (W0 K mg) [] E (Za (Zc 1) Zg)))
  (Zv (Z6 (Z7 (Zdm K mg) [] E (Za (Zc 2) Zg)) (Zt 3))
  (Zv (J2 (Yw (clsA mg "Ledger") "put" (Ez K mg) [] E (Zc 0) (Za (Zc 1) (Za (tOp (rIx K) (Zc 3) (tC (.int 0))) (Za (tOp (rIx K) (Zc 3) (tC (.int 1))) Zg)))))
  (Zz (tC (.str "ok"))))))
def Ek (K:Fq) (mg:Str->Option Value) (E:XK):TS :=
 (Zz (tCB Zh3 (Za (Yw (clsA mg "Ledger") "cost" (Hx K mg) [] E (Zc 0) (Za (Zc 1) (Za (Zc 2) Zg))) Zg)))
def Ei (K:Fq) (mg:Str->Option Value) (E:XK):TS :=
 (Zv (Z6 (Yw (clsA mg "Ledger") "at_once" (Kh K mg) [] E (Zc 0) (Za (Zc 1) (Za (Zc 2) Zg))) (Zt 3))
  (Zv J0
  (Zv J0
  J0)))
def Zde (K:Fq):TS :=
 (Zv (Y0 (Ua K (tBM K "str" Zmj (Zc 0) (Za (tC (.str "put ")) Zg))) (Zz (tBM K "str" (Zsq 2) (Zc 0) (Za (tC (.str " ")) (Za (tC (.int 2)) Zg)))) Yl)
  (Zz (tBM K "str" Zkg (Zc 0) (Za (tC (.str " ")) Zg))))
def Zbp (K:Fq) (mg:Str->Option Value):TS :=
 (sFld K (Zc 0) (Zfd (clsA mg "Ledger") (Hw K mg) [] E0 Zg) "ledger")
def Zdk (K:Fq) (mg:Str->Option Value) (E:XK):TS :=
 (Zv (Z6 (Z7 (Zdl K) [] E0 (Za (Zc 1) Zg)) (Zt 2))
  (Zv (Z6 (tOp (rIx K) (Zc 2) (tC (.int 0))) (Zt 3))
  (Zv (Y0 (Zlx (Y4 (tOp (rEqU K) (tCB (rLenU K) (Za (Zc 2) Zg)) (tC (.int 1)))) (tB (Zlv (Ul mg) (Zc 3)))) (Zz (Zgw (Ul mg) (Zc 3) [(clsA mg "shown_names",U9 K mg),(clsA mg "shown_taste",U8 K mg),(clsA mg "shown_cut",Vv K mg),(clsA mg "shown_fewest",Ud K mg),(clsA mg "shown_hands",Ka K mg)] E (Za (Kg K (Zc 0) "ledger") Zg))) Yl)
  (Zv (Y0 (Zlx (Y4 (tOp (rEqU K) (tCB (rLenU K) (Za (Zc 2) Zg)) (tC (.int 2)))) (tB (Zlv (Jo mg) (Zc 3)))) (Zz (Zgw (Jo mg) (Zc 3) [(clsA mg "take_day",G4 K mg),(clsA mg "shown_kind",Ks K mg)] E (Za (Kg K (Zc 0) "ledger") (Za (tOp (rIx K) (Zc 2) (tC (.int 1))) Zg)))) Yl)
  (Zv (Y0 (Zlx (Y4 (tOp (rEqU K) (tCB (rLenU K) (Za (Zc 2) Zg)) (tC (.int 3)))) (tB (Zlv (Jm mg) (Zc 3)))) (Zz (Zgw (Jm mg) (Zc 3) [(clsA mg "put_day",Zay K mg),(clsA mg "shown_cost",Ku K mg),(clsA mg "shown_mark",Kr K mg)] E (Za (Kg K (Zc 0) "ledger") (Za (tOp (rIx K) (Zc 2) (tC (.int 1))) (Za (tOp (rIx K) (Zc 2) (tC (.int 2))) Zg))))) Yl)
  (Wm E (.ref (clsA mg "NoRow")) (Za (tC (.str "there is no such row")) Zg)))))))
def Vo (K:Fq) (mg:Str->Option Value):TS :=
 (Zv (Z6 (tC (.str "")) (Zt 2))
  (Zv (Ztp K (Zjs (clsA mg "Desk") "say" (Xg K mg) (Zc 0) (Za (Zc 1) Zg)) [(clsA mg "NoRow",(Z6 (tC (.str "row")) (Zt 2))),(clsA mg "NoName",(Z6 (tC (.str "name")) (Zt 2))),(clsA mg "NoText",(Z6 (tC (.str "text")) (Zt 2))),(clsA mg "Twice",(Z6 (tC (.str "twice")) (Zt 2))),(clsA mg "NoBook",(Z6 (tC (.str "book")) (Zt 2)))])
  (Zv (Zto K (clsA mg "TasteError") 3 (Zjs (clsA mg "Desk") "say" (Xg K mg) (Zc 0) (Za (Zc 1) Zg)) (λ e'=>(Zv (Z6 (Zow [((tC (.str "row")),(tCB (Qg K) (Za (Zc 3) (Za (tC (.ref (clsA mg "NoRow"))) Zg)))),((tC (.str "name")),(tCB (Qg K) (Za (Zc 3) (Za (tC (.ref (clsA mg "NoName"))) Zg))))]) (Zt 4))
  (Zv (Zaz (Zc 4) (tC (.str "text")) (tCB (Qg K) (Za (Zc 3) (Za (tC (.ref (clsA mg "NoText"))) Zg))))
  (Zv (Zaz (Zc 4) (tC (.str "twice")) (tCB (Qg K) (Za (Zc 3) (Za (tC (.ref (clsA mg "Twice"))) Zg))))
  (Zv (Zaz (Zc 4) (tC (.str "book")) (tCB (Qg K) (Za (Zc 3) (Za (tC (.ref (clsA mg "NoBook"))) Zg))))
  (Zv (Y0 (tOr (Kf (Ua K (tCB (Qg K) (Za (Zc 3) (Za (tC (.ty "ValueError")) Zg))))) (Ua K (tCB (Qg K) (Za (Zc 3) (Za (Vt (Za (tC (.ref (clsA mg "NoDay"))) (Za (tC (.ref (clsA mg "NoTaste"))) Zg))) Zg))))) (Zz (tC (.str "other"))) Yl)
  (Zv (Zov e' 4 (Zt 5) (Y0 (Y4 (tOp (rNeU K) (Zju (Zc 4) (Zc 5)) (tOp (rEqU K) (Zc 5) (Zc 2)))) (Zz (tC (.str "other"))) Yl))
  (Zz (Zc 2))))))))))
  (Zz (tC (.str ""))))))
def Zbj (K:Fq):TS :=
 (Zz (tBM K "str" (Zfq K) (tC (.str " ")) (Za (Xq [none,none] (Zh7 K (Za (tOp (rIx K) (Zc 0) (tC (.int 0))) (Za (tOp (rIx K) (Zc 0) (tC (.int 1))) Zg))) (Zhp K 2 (Wl (Zt 0) (Wl (Zt 1) Zf2))) Qa (tOp Yn (tOp Yn (tCB Zh3 (Za (Zc 1) Zg)) (tC (.str "x"))) (tCB Zh3 (Za (Zc 0) Zg)))) Zg)))
def Hm (K:Fq):TS :=
 (Zv (Z6 (Xi (Za (tC (.str "")) (Za (tC (.str " ")) (Za (tC (.str "put")) (Za (tC (.str "put a")) (Za (tC (.str "take")) (Za (tC (.str "take a b")) (Za (tC (.str "take  a")) (Za (tC (.str " take a")) (Za (tC (.str "take a ")) (Za (tC (.str "days ")) (Za (tC (.str " days")) (Za (tC (.str "days a")) Zg))))))))))))) (Zt 1))
  (Zv (Z6 (tOp (rAddU K) (Zc 1) (Xi (Za (tC (.str "Days")) (Za (tC (.str "day")) (Za (tC (.str "cost")) (Za (tC (.str "cost a")) (Za (tC (.str "cost a a a")) (Za (tC (.str "better")) (Za (tC (.str "better a")) (Za (tC (.str "better a a a")) (Za (tC (.str "taste ")) Zg))))))))))) (Zt 1))
  (Zv (Z6 (tOp (rAddU K) (Zc 1) (Xi (Za (tC (.str "taste a")) (Za (tC (.str " taste")) (Za (tC (.str "cut ")) (Za (tC (.str "cut a")) (Za (tC (.str "cut 1/2")) (Za (tC (.str "leave a")) (Za (tC (.str "leave ")) (Za (tC (.str "hands a")) (Za (tC (.str "hands ")) (Za (tC (.str "kind")) Zg)))))))))))) (Zt 1))
  (Zv (Z6 (tOp (rAddU K) (Zc 1) (Xi (Za (tC (.str "kind ")) (Za (tC (.str "kind taste")) (Za (tC (.str "kind Money")) (Za (tC (.str "kind mix mix")) (Za (tC (.str "kind summs")) (Za (tC (.str "kinds mix")) (Za (tC (.str "kind  mix")) Zg))))))))) (Zt 1))
  (Zv (Z6 (tOp (rAddU K) (Zc 1) (Xi (Za (tC (.str "PUT a 1x1")) (Za (tC (.str "puts a 1x1")) (Za (tC (.str "ok")) (Za (tC (.str "none")) (Za (tC (.str "mix")) (Za (tC (.str "costs a a")) (Za (tC (.str "a")) (Za (tC (.str "put\n")) (Za (tC (.str "ring a")) (Za (tC (.str "worth a")) Zg)))))))))))) (Zt 1))
  (Zz (tOp (rIx K) (Zc 1) (tOp rModU (Zc 0) (tC (.int 48))))))))))
def Vq (K:Fq):TS :=
 (Zv (Z6 (tOp (rIx K) (Xi (Za (tC (.str "")) (Za (tC (.str "abcdefghi")) (Za (tC (.str "A")) (Za (tC (.str "a1")) (Za (tC (.str "1")) (Za (tC (.str "a-")) (Za (tC (.str "zz")) (Za (tC (.str "new")) Zg))))))))) (tOp rModU (Zc 0) (tC (.int 8)))) (Zt 2))
  (Zv (Z6 (Xi (Za (tOp Yn (tC (.str "take ")) (Zc 2)) (Za (tOp Yn (tC (.str "cost a ")) (Zc 2)) (Za (tOp Yn (tOp Yn (tC (.str "cost ")) (Zc 2)) (tC (.str " a"))) (Za (tOp Yn (tOp Yn (tC (.str "better ")) (Zc 2)) (tC (.str " a"))) (Za (tOp Yn (tC (.str "better a ")) (Zc 2)) Zg)))))) (Zt 3))
  (Zv (Z6 (tOp (rAddU K) (Zc 3) (Xi (Za (tOp Yn (tOp Yn (tOp Yn (tC (.str "cost ")) (Zc 2)) (tC (.str " "))) (Zc 2)) Zg))) (Zt 3))
  (Zv (Y0 (Y4 (tOp rLtU (tOp rModU (Zc 0) (tC (.int 8))) (tC (.int 6)))) (Z6 (tOp (rAddU K) (Zc 3) (Xi (Za (tOp Yn (tOp Yn (tOp Yn (tC (.str "put ")) (Zc 2)) (tC (.str " "))) (Zc 1)) (Za (tOp Yn (tOp Yn (tC (.str "put ")) (Zc 2)) (tC (.str " 3x"))) (Za (tOp Yn (tOp Yn (tC (.str "put ")) (Zc 2)) (tC (.str " "))) Zg))))) (Zt 3)) Yl)
  (Zz (tOp (rIx K) (Zc 3) (tOp rModU (tOp rDivU (Zc 0) (tC (.int 8))) (tCB (rLenU K) (Za (Zc 3) Zg)))))))))
def Vp (K:Fq):TS :=
 (Zv (Z6 (Xi (Za (tC (.str "")) (Za (tC (.str " ")) (Za (tC (.str "3")) (Za (tC (.str "3x0")) (Za (tC (.str "03x1")) (Za (tC (.str "x")) (Za (tC (.str "3x1 ")) (Za (tC (.str " 3x1")) (Za (tC (.str "3x1  3x1")) (Za (tC (.str "0x1")) (Za (tBM K "str" (Zfq K) (tC (.str " ")) (Za (tOp (rMulU K) (Xi (Za (tC (.str "1x1")) Zg)) (tC (.int 7))) Zg)) (Za (tOp Yn (Zc 2) (tC (.str " "))) Zg))))))))))))) (Zt 3))
  (Zv (Z6 (tOp (rAddU K) (Zc 3) (Xi (Za (tOp Yn (tC (.str " ")) (Zc 2)) (Za (tOp Yn (Zc 2) (tC (.str " x"))) (Za (tOp Yn (tC (.str "-")) (Zc 2)) (Za (tOp Yn (Zc 2) (tC (.str "x1"))) (Za (tOp Yn (Zc 2) (tC (.str "000000000000000"))) (Za (tOp Yn (tOp Zt1 (tC (.str "1")) (tC (.int 30))) (tC (.str "x1"))) Zg)))))))) (Zt 3))
  (Zz (tOp Yn (tOp Yn (tOp Yn (tC (.str "put ")) (Zc 1)) (tC (.str " "))) (tOp (rIx K) (Zc 3) (tOp rModU (Zc 0) (tC (.int 18))))))))
def Er (K:Fq):TS :=
 (Zv (Z6 (Z7 (Jp K) [] E0 (Za (Zc 2) Zg)) (Zt 3))
  (Zv (Z6 (tBM K "str" (Zfq K) (tC (.str " ")) (Za (tOp (rAddU K) (Xq [none] (iSeq K (tOp (rIx K) (Zc 2) (tC (.int 0)))) (Zt 0) Qa (tC (.str "1x1"))) (Xi (Za (tC (.str "1x1")) Zg))) Zg)) (Zt 4))
  (Zz (Xi (Za (Xi (Za (tC (.str "row")) (Za (Z7 (Hu K) [] E0 (Za (tOp rDivU (Zc 0) (tC (.int 8))) Zg)) Zg))) (Za (Xi (Za (tC (.str "name")) (Za (Z7 (Vz K) [] E0 (Za (tOp rDivU (Zc 0) (tC (.int 8))) (Za (Zc 3) Zg))) Zg))) (Za (Xi (Za (tC (.str "text")) (Za (Z7 (Vy K) [] E0 (Za (tOp rDivU (Zc 0) (tC (.int 16))) (Za (tOp (rIx K) (Xi (Za (tC (.str "new")) (Za (tOp (rIx K) (Zc 1) (tUn rNegU (tC (.int 1)))) Zg))) (tOp rModU (tOp rDivU (Zc 0) (tC (.int 8))) (tC (.int 2)))) (Za (Zc 3) Zg)))) Zg))) (Za (Xi (Za (tC (.str "twice")) (Za (tOp Yn (tOp Yn (tOp Yn (tC (.str "put ")) (tOp (rIx K) (Zc 1) (tOp rModU (tOp rDivU (Zc 0) (tC (.int 16))) (tCB (rLenU K) (Za (Zc 1) Zg))))) (tC (.str " "))) (tOp (rIx K) (Xi (Za (Zc 3) (Za (Zc 4) Zg))) (tOp rModU (tOp rDivU (Zc 0) (tC (.int 8))) (tC (.int 2))))) Zg))) (Za (Xi (Za (tC (.str "book")) (Za (tOp Yn (tC (.str "put new ")) (Zc 4)) Zg))) Zg)))))))))
def Vn (K:Fq) (mg:Str->Option Value):TS :=
 (Zv (Z6 (Zfd (clsA mg "Desk") (Wo K mg) [] E0 Zg) (Zt 2))
  (Zv (Z6 (tOp (rIx K) (Xi (Za (tC (.str "money")) (Za (tC (.str "steady")) (Za (tC (.str "sums")) (Za (tC (.str "mix")) (Za (tC (.str "parts")) (Za (tC (.str "total")) Zg))))))) (tOp rModU (Zc 0) (tC (.int 6)))) (Zt 3))
  (Zv (Zbq (iSeq K (Xi (Za (tC (.str "taste")) (Za (tC (.str "cut")) (Za (tC (.str "leave")) (Za (tC (.str "hands")) (Za (tOp Yn (tC (.str "kind ")) (Zc 3)) Zg))))))) (Zt 4) (Y0 (Y4 (tOp (rNeU K) (Z7 (Xj K mg) [] E0 (Za (Zc 2) (Za (Zc 4) Zg))) (tC (.str "book")))) (Zz (tC (.bl false))) Yl))
  (Zv (Zbq (iSeq K (Xi (Za (tC (.str "cost a b")) (Za (tC (.str "better a b")) (Za (tC (.str "take a")) (Za (tOp Yn (tC (.str "put A ")) (Zc 1)) Zg)))))) (Zt 4) (Y0 (Y4 (tOp (rNeU K) (Z7 (Xj K mg) [] E0 (Za (Zc 2) (Za (Zc 4) Zg))) (tC (.str "name")))) (Zz (tC (.bl false))) Yl))
  (Zz (U6 (tOp (rEqU K) (Z7 (Xj K mg) [] E0 (Za (Zc 2) (Za (tC (.str "kind other")) Zg))) (tC (.str "row"))) (tOp (rEqU K) (Yw (clsA mg "Desk") "say" (Xg K mg) [] E0 (Zc 2) (Za (tC (.str "days")) Zg)) (tC (.str "-")))))))))
def Zpf (K:Fq) (mg:Str->Option Value):TS :=
 (Zv (Z6 (Z7 (Zbu K) [] E0 (Za (Zc 0) (Za (tC (.int 4)) (Za (tC (.int 6)) (Za (tC (.int 4)) Zg))))) (Zt 1))
  (Zv (Z6 (Xq [none] (Wk (Za (tCB (rLenU K) (Za (Zc 1) Zg)) Zg)) (Zt 0) Qa (tOp (rIx K) (tC (.str "abcdef")) (Zc 0))) (Zt 2))
  (Zv (Z6 (Z7 (Wn K) [] E0 (Za (Zc 0) (Za (tC (.int 1)) Zg))) (Zt 3))
  (Zv (Y0 (Kf (Ua K (Z7 (Vx K mg) [] E0 (Za (Zc 3) (Za (Z7 (Jp K) [] E0 (Za (tOp (rIx K) (Zc 1) (tC (.int 0))) Zg)) Zg))))) (Zz (tC (.bl false))) Yl)
  (Zv (Z6 (Zfd (clsA mg "Desk") (Wo K mg) [] E0 Zg) (Zt 4))
  (Zv (Zbq (Zky K (Za (Zc 2) (Za (Zc 1) Zg))) (Zhp K 2 (Wl (Zt 5) (Wl (Zt 6) Zf2))) (Y0 (Y4 (tOp (rNeU K) (Yw (clsA mg "Desk") "say" (Xg K mg) [] E0 (Zc 4) (Za (tOp Yn (tOp Yn (tOp Yn (tC (.str "put ")) (Zc 5)) (tC (.str " "))) (Z7 (Jp K) [] E0 (Za (Zc 6) Zg))) Zg)) (tC (.str "ok")))) (Zz (tC (.bl false))) Yl))
  (Zv (Z6 (tCB Zh3 (Za (Z7 (V0 K) [] E0 (Za (Zc 1) (Za (tC (.int 0)) (Za (tOp rSubU (tCB (rLenU K) (Za (Zc 1) Zg)) (tC (.int 1))) Zg)))) Zg)) (Zt 7))
  (Zv (Zbq (iSeq K (Z7 (Ey K) [] E0 (Za (Zc 3) (Za (Zc 2) (Za (tOp (rIx K) (Zc 1) (tUn rNegU (tC (.int 1)))) Zg))))) (Zuh K 2 (Wl (Zt 8) (Wl (Zt 9) Zf2))) (Zv (Y0 (tOr (Y4 (tOp (rNeU K) (Z7 (Xj K mg) [] E0 (Za (Zc 4) (Za (Zc 9) Zg))) (Zc 8))) (Y4 (tOp (rNeU K) (Yw (clsA mg "Desk") "say" (Xg K mg) [] E0 (Zc 4) (Za (tC (.str "days")) Zg)) (tBM K "str" (Zfq K) (tC (.str " ")) (Za (Zc 2) Zg))))) (Zz (tC (.bl false))) Yl)
  (Y0 (Y4 (tOp (rNeU K) (Yw (clsA mg "Desk") "say" (Xg K mg) [] E0 (Zc 4) (Za (tOp Yn (tC (.str "cost a ")) (tOp (rIx K) (Zc 2) (tUn rNegU (tC (.int 1))))) Zg)) (Zc 7))) (Zz (tC (.bl false))) Yl)))
  (Zv (Z6 (Z7 (Jp K) [] E0 (Za (tOp (rIx K) (Zc 1) (tC (.int 0))) Zg)) (Zt 10))
  (Zv (Zbq (Wk (Za (tOp rSubU (tC (.int 8)) (tCB (rLenU K) (Za (Zc 1) Zg))) Zg)) (Zt 11) (Y0 (Y4 (tOp (rNeU K) (Yw (clsA mg "Desk") "say" (Xg K mg) [] E0 (Zc 4) (Za (tOp Yn (tOp Yn (tOp Yn (tC (.str "put ")) (tOp (rIx K) (Xi (Za (tC (.str "new")) (Za (tC (.str "zz")) (Za (tC (.str "n")) (Za (tC (.str "ne")) (Za (tC (.str "newa")) (Za (tC (.str "newb")) (Za (tC (.str "newc")) Zg)))))))) (Zc 11))) (tC (.str " "))) (Zc 10)) Zg)) (tC (.str "ok")))) (Zz (tC (.bl false))) Yl))
  (Zz (U6 (tOp (rEqU K) (Z7 (Xj K mg) [] E0 (Za (Zc 4) (Za (tOp Yn (tC (.str "put ninth ")) (Zc 10)) Zg))) (tC (.str "book"))) (tOp (rEqU K) (Yw (clsA mg "Desk") "say" (Xg K mg) [] E0 (Zc 4) (Za (tC (.str "cost a new")) Zg)) (tCB Zh3 (Za (Z7 (V0 K) [] E0 (Za (Zc 1) (Za (tC (.int 0)) (Za (tC (.int 0)) Zg)))) Zg)))))))))))))))
def top (i:Nat):Stmt:=PySem.Challenge.pw_tastesbook_k86_desk_refuses.main.body.getD i (.Pass ⟨0,0,0,0⟩)
structure Md (K:Fq) (mg:Str->Option Value):Prop where
 b_ValueError:mg "ValueError"=none
 b_all:mg "all"=none
 b_any:mg "any"=none
 b_bool:mg "bool"=none
 b_int:mg "int"=none
 b_isinstance:mg "isinstance"=none
 b_len:mg "len"=none
 b_list:mg "list"=none
 b_min:mg "min"=none
 b_range:mg "range"=none
 b_str:mg "str"=none
 b_sum:mg "sum"=none
 b_tuple:mg "tuple"=none
 b_zip:mg "zip"=none
 c_FIGURES:∃ t,mg "FIGURES"=some (.str "0123456789" t)
 c_HIGHEST_AMOUNT:∃ t,mg "HIGHEST_AMOUNT"=some (.int 1000000000000000000 t)
 c_HIGHEST_PRICE:∃ t,mg "HIGHEST_PRICE"=some (.int 1000000000 t)
 c_LETTERS:∃ t,mg "LETTERS"=some (.str "abcdefghijklmnopqrstuvwxyz" t)
 c_LONGEST_NAME:∃ t,mg "LONGEST_NAME"=some (.int 8 t)
 c_MOST_DAYS:∃ t,mg "MOST_DAYS"=some (.int 8 t)
 c_MOST_FIGURES:∃ t,mg "MOST_FIGURES"=some (.int 19 t)
 c_MOST_WARES:∃ t,mg "MOST_WARES"=some (.int 6 t)
 c_NOTHING:∃ t,mg "NOTHING"=some (.str "-" t)
 x_NoBook:ExC K mg "NoBook" (clsA mg "NoBook")
 x_NoDay:ExC K mg "NoDay" (clsA mg "NoDay")
 x_NoName:ExC K mg "NoName" (clsA mg "NoName")
 x_NoRow:ExC K mg "NoRow" (clsA mg "NoRow")
 x_NoTaste:ExC K mg "NoTaste" (clsA mg "NoTaste")
 x_NoText:ExC K mg "NoText" (clsA mg "NoText")
 x_TasteError:ExC K mg "TasteError" (clsA mg "TasteError")
 x_Twice:ExC K mg "Twice" (clsA mg "Twice")
 s_NoBook_NoBook:PySem.W.mroIn K (clsA mg "NoBook") (.ref (clsA mg "NoBook"))=some true
 s_NoBook_TasteError:PySem.W.mroIn K (clsA mg "NoBook") (.ref (clsA mg "TasteError"))=some true
 s_NoDay_NoDay:PySem.W.mroIn K (clsA mg "NoDay") (.ref (clsA mg "NoDay"))=some true
 s_NoDay_TasteError:PySem.W.mroIn K (clsA mg "NoDay") (.ref (clsA mg "TasteError"))=some true
 s_NoName_NoName:PySem.W.mroIn K (clsA mg "NoName") (.ref (clsA mg "NoName"))=some true
 s_NoName_TasteError:PySem.W.mroIn K (clsA mg "NoName") (.ref (clsA mg "TasteError"))=some true
 s_NoRow_NoRow:PySem.W.mroIn K (clsA mg "NoRow") (.ref (clsA mg "NoRow"))=some true
 s_NoRow_TasteError:PySem.W.mroIn K (clsA mg "NoRow") (.ref (clsA mg "TasteError"))=some true
 s_NoTaste_NoTaste:PySem.W.mroIn K (clsA mg "NoTaste") (.ref (clsA mg "NoTaste"))=some true
 s_NoTaste_TasteError:PySem.W.mroIn K (clsA mg "NoTaste") (.ref (clsA mg "TasteError"))=some true
 s_NoText_NoText:PySem.W.mroIn K (clsA mg "NoText") (.ref (clsA mg "NoText"))=some true
 s_NoText_TasteError:PySem.W.mroIn K (clsA mg "NoText") (.ref (clsA mg "TasteError"))=some true
 s_TasteError_TasteError:PySem.W.mroIn K (clsA mg "TasteError") (.ref (clsA mg "TasteError"))=some true
 s_Twice_Twice:PySem.W.mroIn K (clsA mg "Twice") (.ref (clsA mg "Twice"))=some true
 s_Twice_TasteError:PySem.W.mroIn K (clsA mg "Twice") (.ref (clsA mg "TasteError"))=some true
 v_NoBook:PySem.W.kitOne K (.ref (clsA mg "NoBook")) (.type "ValueError")=some true
 v_NoDay:PySem.W.kitOne K (.ref (clsA mg "NoDay")) (.type "ValueError")=some true
 v_NoName:PySem.W.kitOne K (.ref (clsA mg "NoName")) (.type "ValueError")=some true
 v_NoRow:PySem.W.kitOne K (.ref (clsA mg "NoRow")) (.type "ValueError")=some true
 v_NoTaste:PySem.W.kitOne K (.ref (clsA mg "NoTaste")) (.type "ValueError")=some true
 v_NoText:PySem.W.kitOne K (.ref (clsA mg "NoText")) (.type "ValueError")=some true
 v_TasteError:PySem.W.kitOne K (.ref (clsA mg "TasteError")) (.type "ValueError")=some true
 v_Twice:PySem.W.kitOne K (.ref (clsA mg "Twice")) (.type "ValueError")=some true
 f_NoBook:ExF K (clsA mg "NoBook")
 j_NoBook_0:PySem.W.kitAny K (.ref (clsA mg "NoBook")) [.ref (clsA mg "NoDay"),.ref (clsA mg "NoTaste")]=some false
 ky_NoBook_NoBook:PySem.W.kitOne K (.ref (clsA mg "NoBook")) (.ref (clsA mg "NoBook"))=some true
 ky_NoBook_Twice:PySem.W.kitOne K (.ref (clsA mg "NoBook")) (.ref (clsA mg "Twice"))=some false
 ky_NoBook_NoText:PySem.W.kitOne K (.ref (clsA mg "NoBook")) (.ref (clsA mg "NoText"))=some false
 ky_NoBook_NoName:PySem.W.kitOne K (.ref (clsA mg "NoBook")) (.ref (clsA mg "NoName"))=some false
 ky_NoBook_NoRow:PySem.W.kitOne K (.ref (clsA mg "NoBook")) (.ref (clsA mg "NoRow"))=some false
 f_NoDay:ExF K (clsA mg "NoDay")
 j_NoDay_0:PySem.W.kitAny K (.ref (clsA mg "NoDay")) [.ref (clsA mg "NoDay"),.ref (clsA mg "NoTaste")]=some true
 ky_NoDay_NoBook:PySem.W.kitOne K (.ref (clsA mg "NoDay")) (.ref (clsA mg "NoBook"))=some false
 ky_NoDay_Twice:PySem.W.kitOne K (.ref (clsA mg "NoDay")) (.ref (clsA mg "Twice"))=some false
 ky_NoDay_NoText:PySem.W.kitOne K (.ref (clsA mg "NoDay")) (.ref (clsA mg "NoText"))=some false
 ky_NoDay_NoName:PySem.W.kitOne K (.ref (clsA mg "NoDay")) (.ref (clsA mg "NoName"))=some false
 ky_NoDay_NoRow:PySem.W.kitOne K (.ref (clsA mg "NoDay")) (.ref (clsA mg "NoRow"))=some false
 f_NoName:ExF K (clsA mg "NoName")
 j_NoName_0:PySem.W.kitAny K (.ref (clsA mg "NoName")) [.ref (clsA mg "NoDay"),.ref (clsA mg "NoTaste")]=some false
 ky_NoName_NoBook:PySem.W.kitOne K (.ref (clsA mg "NoName")) (.ref (clsA mg "NoBook"))=some false
 ky_NoName_Twice:PySem.W.kitOne K (.ref (clsA mg "NoName")) (.ref (clsA mg "Twice"))=some false
 ky_NoName_NoText:PySem.W.kitOne K (.ref (clsA mg "NoName")) (.ref (clsA mg "NoText"))=some false
 ky_NoName_NoName:PySem.W.kitOne K (.ref (clsA mg "NoName")) (.ref (clsA mg "NoName"))=some true
 ky_NoName_NoRow:PySem.W.kitOne K (.ref (clsA mg "NoName")) (.ref (clsA mg "NoRow"))=some false
 f_NoRow:ExF K (clsA mg "NoRow")
 j_NoRow_0:PySem.W.kitAny K (.ref (clsA mg "NoRow")) [.ref (clsA mg "NoDay"),.ref (clsA mg "NoTaste")]=some false
 ky_NoRow_NoBook:PySem.W.kitOne K (.ref (clsA mg "NoRow")) (.ref (clsA mg "NoBook"))=some false
 ky_NoRow_Twice:PySem.W.kitOne K (.ref (clsA mg "NoRow")) (.ref (clsA mg "Twice"))=some false
 ky_NoRow_NoText:PySem.W.kitOne K (.ref (clsA mg "NoRow")) (.ref (clsA mg "NoText"))=some false
 ky_NoRow_NoName:PySem.W.kitOne K (.ref (clsA mg "NoRow")) (.ref (clsA mg "NoName"))=some false
 ky_NoRow_NoRow:PySem.W.kitOne K (.ref (clsA mg "NoRow")) (.ref (clsA mg "NoRow"))=some true
 f_NoText:ExF K (clsA mg "NoText")
 j_NoText_0:PySem.W.kitAny K (.ref (clsA mg "NoText")) [.ref (clsA mg "NoDay"),.ref (clsA mg "NoTaste")]=some false
 ky_NoText_NoBook:PySem.W.kitOne K (.ref (clsA mg "NoText")) (.ref (clsA mg "NoBook"))=some false
 ky_NoText_Twice:PySem.W.kitOne K (.ref (clsA mg "NoText")) (.ref (clsA mg "Twice"))=some false
 ky_NoText_NoText:PySem.W.kitOne K (.ref (clsA mg "NoText")) (.ref (clsA mg "NoText"))=some true
 ky_NoText_NoName:PySem.W.kitOne K (.ref (clsA mg "NoText")) (.ref (clsA mg "NoName"))=some false
 ky_NoText_NoRow:PySem.W.kitOne K (.ref (clsA mg "NoText")) (.ref (clsA mg "NoRow"))=some false
 f_Twice:ExF K (clsA mg "Twice")
 j_Twice_0:PySem.W.kitAny K (.ref (clsA mg "Twice")) [.ref (clsA mg "NoDay"),.ref (clsA mg "NoTaste")]=some false
 ky_Twice_NoBook:PySem.W.kitOne K (.ref (clsA mg "Twice")) (.ref (clsA mg "NoBook"))=some false
 ky_Twice_Twice:PySem.W.kitOne K (.ref (clsA mg "Twice")) (.ref (clsA mg "Twice"))=some true
 ky_Twice_NoText:PySem.W.kitOne K (.ref (clsA mg "Twice")) (.ref (clsA mg "NoText"))=some false
 ky_Twice_NoName:PySem.W.kitOne K (.ref (clsA mg "Twice")) (.ref (clsA mg "NoName"))=some false
 ky_Twice_NoRow:PySem.W.kitOne K (.ref (clsA mg "Twice")) (.ref (clsA mg "NoRow"))=some false
 nm_NoName_NoRow:PySem.W.mroIn K (clsA mg "NoName") (.ref (clsA mg "NoRow"))=some false
 nm_NoText_NoRow:PySem.W.mroIn K (clsA mg "NoText") (.ref (clsA mg "NoRow"))=some false
 nm_NoText_NoName:PySem.W.mroIn K (clsA mg "NoText") (.ref (clsA mg "NoName"))=some false
 nm_Twice_NoRow:PySem.W.mroIn K (clsA mg "Twice") (.ref (clsA mg "NoRow"))=some false
 nm_Twice_NoName:PySem.W.mroIn K (clsA mg "Twice") (.ref (clsA mg "NoName"))=some false
 nm_Twice_NoText:PySem.W.mroIn K (clsA mg "Twice") (.ref (clsA mg "NoText"))=some false
 nm_NoBook_NoRow:PySem.W.mroIn K (clsA mg "NoBook") (.ref (clsA mg "NoRow"))=some false
 nm_NoBook_NoName:PySem.W.mroIn K (clsA mg "NoBook") (.ref (clsA mg "NoName"))=some false
 nm_NoBook_NoText:PySem.W.mroIn K (clsA mg "NoBook") (.ref (clsA mg "NoText"))=some false
 nm_NoBook_Twice:PySem.W.mroIn K (clsA mg "NoBook") (.ref (clsA mg "Twice"))=some false
 o_Ledger:Own K mg "Ledger" (clsA mg "Ledger")
 o_Desk:Own K mg "Desk" (clsA mg "Desk")
 na_Ledger_kept:NoAttr K (clsA mg "Ledger") "kept"
 na_Desk_ledger:NoAttr K (clsA mg "Desk") "ledger"
 al_cost_days:mg "cost_days"=mg "cost"
 t_KINDS:Tbl K mg "KINDS" (Uk mg)
 t_ALONE:Tbl K mg "ALONE" (Ul mg)
 t_WITH_ONE:Tbl K mg "WITH_ONE" (Jo mg)
 t_WITH_TWO:Tbl K mg "WITH_TWO" (Jm mg)
 nc_taste_of:NoC K mg "taste_of"
 nc_cut_cuts:NoC K mg "cut_cuts"
 nc_fewest_leaving:NoC K mg "fewest_leaving"
 nc_two_hands_leaving:NoC K mg "two_hands_leaving"
theorem Z3s {K:Fq} {mg:Str->Option Value} {h:Heap} {c_NoBook c_NoDay c_NoName c_NoRow c_NoTaste c_NoText c_TasteError c_Twice:Addr} {t_FIGURES t_HIGHEST_AMOUNT t_HIGHEST_PRICE t_LETTERS t_LONGEST_NAME t_MOST_DAYS t_MOST_FIGURES t_MOST_WARES t_NOTHING:Tok} (X:K.In h) (G:h.Ns mainGlobals mg) (n_NoBook:PySem.W.nsIn K mainGlobals "NoBook"=some (some (.ref c_NoBook))) (n_NoDay:PySem.W.nsIn K mainGlobals "NoDay"=some (some (.ref c_NoDay))) (n_NoName:PySem.W.nsIn K mainGlobals "NoName"=some (some (.ref c_NoName))) (n_NoRow:PySem.W.nsIn K mainGlobals "NoRow"=some (some (.ref c_NoRow))) (n_NoTaste:PySem.W.nsIn K mainGlobals "NoTaste"=some (some (.ref c_NoTaste))) (n_NoText:PySem.W.nsIn K mainGlobals "NoText"=some (some (.ref c_NoText))) (n_TasteError:PySem.W.nsIn K mainGlobals "TasteError"=some (some (.ref c_TasteError))) (n_Twice:PySem.W.nsIn K mainGlobals "Twice"=some (some (.ref c_Twice))) (q_NoBook:PySem.W.excIn K c_NoBook bmV "ValueError.__new__"=true) (q_NoDay:PySem.W.excIn K c_NoDay bmV "ValueError.__new__"=true) (q_NoName:PySem.W.excIn K c_NoName bmV "ValueError.__new__"=true) (q_NoRow:PySem.W.excIn K c_NoRow bmV "ValueError.__new__"=true) (q_NoTaste:PySem.W.excIn K c_NoTaste bmV "ValueError.__new__"=true) (q_NoText:PySem.W.excIn K c_NoText bmV "ValueError.__new__"=true) (q_TasteError:PySem.W.excIn K c_TasteError bmV "ValueError.__new__"=true) (q_Twice:PySem.W.excIn K c_Twice bmV "ValueError.__new__"=true) (s_NoBook_NoBook:PySem.W.mroIn K c_NoBook (.ref c_NoBook)=some true) (s_NoBook_TasteError:PySem.W.mroIn K c_NoBook (.ref c_TasteError)=some true) (s_NoDay_NoDay:PySem.W.mroIn K c_NoDay (.ref c_NoDay)=some true) (s_NoDay_TasteError:PySem.W.mroIn K c_NoDay (.ref c_TasteError)=some true) (s_NoName_NoName:PySem.W.mroIn K c_NoName (.ref c_NoName)=some true) (s_NoName_TasteError:PySem.W.mroIn K c_NoName (.ref c_TasteError)=some true) (s_NoRow_NoRow:PySem.W.mroIn K c_NoRow (.ref c_NoRow)=some true) (s_NoRow_TasteError:PySem.W.mroIn K c_NoRow (.ref c_TasteError)=some true) (s_NoTaste_NoTaste:PySem.W.mroIn K c_NoTaste (.ref c_NoTaste)=some true) (s_NoTaste_TasteError:PySem.W.mroIn K c_NoTaste (.ref c_TasteError)=some true) (s_NoText_NoText:PySem.W.mroIn K c_NoText (.ref c_NoText)=some true) (s_NoText_TasteError:PySem.W.mroIn K c_NoText (.ref c_TasteError)=some true) (s_TasteError_TasteError:PySem.W.mroIn K c_TasteError (.ref c_TasteError)=some true) (s_Twice_Twice:PySem.W.mroIn K c_Twice (.ref c_Twice)=some true) (s_Twice_TasteError:PySem.W.mroIn K c_Twice (.ref c_TasteError)=some true) (v_NoBook:PySem.W.kitOne K (.ref c_NoBook) (.type "ValueError")=some true) (v_NoDay:PySem.W.kitOne K (.ref c_NoDay) (.type "ValueError")=some true) (v_NoName:PySem.W.kitOne K (.ref c_NoName) (.type "ValueError")=some true) (v_NoRow:PySem.W.kitOne K (.ref c_NoRow) (.type "ValueError")=some true) (v_NoTaste:PySem.W.kitOne K (.ref c_NoTaste) (.type "ValueError")=some true) (v_NoText:PySem.W.kitOne K (.ref c_NoText) (.type "ValueError")=some true) (v_TasteError:PySem.W.kitOne K (.ref c_TasteError) (.type "ValueError")=some true) (v_Twice:PySem.W.kitOne K (.ref c_Twice) (.type "ValueError")=some true) (ga_NoBook:PySem.W.findIn K (.ref c_NoBook) "__getattribute__"=some (some (.builtin "BaseException.__getattribute__"))) (gn_NoBook:PySem.W.findIn K (.ref c_NoBook) "__getattr__"=some none) (be_NoBook:PySem.W.mroIn K c_NoBook (.type "BaseException")=some true) (at_NoBook:PySem.W.findIn K (.ref c_NoBook) "__class__"=some (some (.builtin "object.__class__"))) (gt_NoBook:PySem.W.specialIn K (.builtin "object.__class__") "__get__"=some (some (.builtin "getset_descriptor.__get__"))) (tk_NoBook:PySem.W.takesIn K (.builtin "object.__class__")=some true) (ob_NoBook:PySem.W.mroIn K c_NoBook (.type "object")=some true) (cl_NoBook:PySem.W.isClsIn K c_NoBook=true) (j_NoBook_0:PySem.W.kitAny K (.ref c_NoBook) [.ref c_NoDay,.ref c_NoTaste]=some false) (ky_NoBook_NoBook:PySem.W.kitOne K (.ref c_NoBook) (.ref c_NoBook)=some true) (ky_NoBook_Twice:PySem.W.kitOne K (.ref c_NoBook) (.ref c_Twice)=some false) (ky_NoBook_NoText:PySem.W.kitOne K (.ref c_NoBook) (.ref c_NoText)=some false) (ky_NoBook_NoName:PySem.W.kitOne K (.ref c_NoBook) (.ref c_NoName)=some false) (ky_NoBook_NoRow:PySem.W.kitOne K (.ref c_NoBook) (.ref c_NoRow)=some false) (ga_NoDay:PySem.W.findIn K (.ref c_NoDay) "__getattribute__"=some (some (.builtin "BaseException.__getattribute__"))) (gn_NoDay:PySem.W.findIn K (.ref c_NoDay) "__getattr__"=some none) (be_NoDay:PySem.W.mroIn K c_NoDay (.type "BaseException")=some true) (at_NoDay:PySem.W.findIn K (.ref c_NoDay) "__class__"=some (some (.builtin "object.__class__"))) (gt_NoDay:PySem.W.specialIn K (.builtin "object.__class__") "__get__"=some (some (.builtin "getset_descriptor.__get__"))) (tk_NoDay:PySem.W.takesIn K (.builtin "object.__class__")=some true) (ob_NoDay:PySem.W.mroIn K c_NoDay (.type "object")=some true) (cl_NoDay:PySem.W.isClsIn K c_NoDay=true) (j_NoDay_0:PySem.W.kitAny K (.ref c_NoDay) [.ref c_NoDay,.ref c_NoTaste]=some true) (ky_NoDay_NoBook:PySem.W.kitOne K (.ref c_NoDay) (.ref c_NoBook)=some false) (ky_NoDay_Twice:PySem.W.kitOne K (.ref c_NoDay) (.ref c_Twice)=some false) (ky_NoDay_NoText:PySem.W.kitOne K (.ref c_NoDay) (.ref c_NoText)=some false) (ky_NoDay_NoName:PySem.W.kitOne K (.ref c_NoDay) (.ref c_NoName)=some false) (ky_NoDay_NoRow:PySem.W.kitOne K (.ref c_NoDay) (.ref c_NoRow)=some false) (ga_NoName:PySem.W.findIn K (.ref c_NoName) "__getattribute__"=some (some (.builtin "BaseException.__getattribute__"))) (gn_NoName:PySem.W.findIn K (.ref c_NoName) "__getattr__"=some none) (be_NoName:PySem.W.mroIn K c_NoName (.type "BaseException")=some true) (at_NoName:PySem.W.findIn K (.ref c_NoName) "__class__"=some (some (.builtin "object.__class__"))) (gt_NoName:PySem.W.specialIn K (.builtin "object.__class__") "__get__"=some (some (.builtin "getset_descriptor.__get__"))) (tk_NoName:PySem.W.takesIn K (.builtin "object.__class__")=some true) (ob_NoName:PySem.W.mroIn K c_NoName (.type "object")=some true) (cl_NoName:PySem.W.isClsIn K c_NoName=true) (j_NoName_0:PySem.W.kitAny K (.ref c_NoName) [.ref c_NoDay,.ref c_NoTaste]=some false) (ky_NoName_NoBook:PySem.W.kitOne K (.ref c_NoName) (.ref c_NoBook)=some false) (ky_NoName_Twice:PySem.W.kitOne K (.ref c_NoName) (.ref c_Twice)=some false) (ky_NoName_NoText:PySem.W.kitOne K (.ref c_NoName) (.ref c_NoText)=some false) (ky_NoName_NoName:PySem.W.kitOne K (.ref c_NoName) (.ref c_NoName)=some true) (ky_NoName_NoRow:PySem.W.kitOne K (.ref c_NoName) (.ref c_NoRow)=some false) (ga_NoRow:PySem.W.findIn K (.ref c_NoRow) "__getattribute__"=some (some (.builtin "BaseException.__getattribute__"))) (gn_NoRow:PySem.W.findIn K (.ref c_NoRow) "__getattr__"=some none) (be_NoRow:PySem.W.mroIn K c_NoRow (.type "BaseException")=some true) (at_NoRow:PySem.W.findIn K (.ref c_NoRow) "__class__"=some (some (.builtin "object.__class__"))) (gt_NoRow:PySem.W.specialIn K (.builtin "object.__class__") "__get__"=some (some (.builtin "getset_descriptor.__get__"))) (tk_NoRow:PySem.W.takesIn K (.builtin "object.__class__")=some true) (ob_NoRow:PySem.W.mroIn K c_NoRow (.type "object")=some true) (cl_NoRow:PySem.W.isClsIn K c_NoRow=true) (j_NoRow_0:PySem.W.kitAny K (.ref c_NoRow) [.ref c_NoDay,.ref c_NoTaste]=some false) (ky_NoRow_NoBook:PySem.W.kitOne K (.ref c_NoRow) (.ref c_NoBook)=some false) (ky_NoRow_Twice:PySem.W.kitOne K (.ref c_NoRow) (.ref c_Twice)=some false) (ky_NoRow_NoText:PySem.W.kitOne K (.ref c_NoRow) (.ref c_NoText)=some false) (ky_NoRow_NoName:PySem.W.kitOne K (.ref c_NoRow) (.ref c_NoName)=some false) (ky_NoRow_NoRow:PySem.W.kitOne K (.ref c_NoRow) (.ref c_NoRow)=some true) (ga_NoText:PySem.W.findIn K (.ref c_NoText) "__getattribute__"=some (some (.builtin "BaseException.__getattribute__"))) (gn_NoText:PySem.W.findIn K (.ref c_NoText) "__getattr__"=some none) (be_NoText:PySem.W.mroIn K c_NoText (.type "BaseException")=some true) (at_NoText:PySem.W.findIn K (.ref c_NoText) "__class__"=some (some (.builtin "object.__class__"))) (gt_NoText:PySem.W.specialIn K (.builtin "object.__class__") "__get__"=some (some (.builtin "getset_descriptor.__get__"))) (tk_NoText:PySem.W.takesIn K (.builtin "object.__class__")=some true) (ob_NoText:PySem.W.mroIn K c_NoText (.type "object")=some true) (cl_NoText:PySem.W.isClsIn K c_NoText=true) (j_NoText_0:PySem.W.kitAny K (.ref c_NoText) [.ref c_NoDay,.ref c_NoTaste]=some false) (ky_NoText_NoBook:PySem.W.kitOne K (.ref c_NoText) (.ref c_NoBook)=some false) (ky_NoText_Twice:PySem.W.kitOne K (.ref c_NoText) (.ref c_Twice)=some false) (ky_NoText_NoText:PySem.W.kitOne K (.ref c_NoText) (.ref c_NoText)=some true) (ky_NoText_NoName:PySem.W.kitOne K (.ref c_NoText) (.ref c_NoName)=some false) (ky_NoText_NoRow:PySem.W.kitOne K (.ref c_NoText) (.ref c_NoRow)=some false) (ga_Twice:PySem.W.findIn K (.ref c_Twice) "__getattribute__"=some (some (.builtin "BaseException.__getattribute__"))) (gn_Twice:PySem.W.findIn K (.ref c_Twice) "__getattr__"=some none) (be_Twice:PySem.W.mroIn K c_Twice (.type "BaseException")=some true) (at_Twice:PySem.W.findIn K (.ref c_Twice) "__class__"=some (some (.builtin "object.__class__"))) (gt_Twice:PySem.W.specialIn K (.builtin "object.__class__") "__get__"=some (some (.builtin "getset_descriptor.__get__"))) (tk_Twice:PySem.W.takesIn K (.builtin "object.__class__")=some true) (ob_Twice:PySem.W.mroIn K c_Twice (.type "object")=some true) (cl_Twice:PySem.W.isClsIn K c_Twice=true) (j_Twice_0:PySem.W.kitAny K (.ref c_Twice) [.ref c_NoDay,.ref c_NoTaste]=some false) (ky_Twice_NoBook:PySem.W.kitOne K (.ref c_Twice) (.ref c_NoBook)=some false) (ky_Twice_Twice:PySem.W.kitOne K (.ref c_Twice) (.ref c_Twice)=some true) (ky_Twice_NoText:PySem.W.kitOne K (.ref c_Twice) (.ref c_NoText)=some false) (ky_Twice_NoName:PySem.W.kitOne K (.ref c_Twice) (.ref c_NoName)=some false) (ky_Twice_NoRow:PySem.W.kitOne K (.ref c_Twice) (.ref c_NoRow)=some false) (nm_NoName_NoRow:PySem.W.mroIn K c_NoName (.ref c_NoRow)=some false) (nm_NoText_NoRow:PySem.W.mroIn K c_NoText (.ref c_NoRow)=some false) (nm_NoText_NoName:PySem.W.mroIn K c_NoText (.ref c_NoName)=some false) (nm_Twice_NoRow:PySem.W.mroIn K c_Twice (.ref c_NoRow)=some false) (nm_Twice_NoName:PySem.W.mroIn K c_Twice (.ref c_NoName)=some false) (nm_Twice_NoText:PySem.W.mroIn K c_Twice (.ref c_NoText)=some false) (nm_NoBook_NoRow:PySem.W.mroIn K c_NoBook (.ref c_NoRow)=some false) (nm_NoBook_NoName:PySem.W.mroIn K c_NoBook (.ref c_NoName)=some false) (nm_NoBook_NoText:PySem.W.mroIn K c_NoBook (.ref c_NoText)=some false) (nm_NoBook_Twice:PySem.W.mroIn K c_NoBook (.ref c_Twice)=some false) (o_Ledger:Own K mg "Ledger" (clsA mg "Ledger")) (o_Desk:Own K mg "Desk" (clsA mg "Desk")) (na_Ledger_kept:NoAttr K (clsA mg "Ledger") "kept") (na_Desk_ledger:NoAttr K (clsA mg "Desk") "ledger") (al_cost_days:mg "cost_days"=mg "cost") (t_KINDS:Tbl K mg "KINDS" (Uk mg)) (t_ALONE:Tbl K mg "ALONE" (Ul mg)) (t_WITH_ONE:Tbl K mg "WITH_ONE" (Jo mg)) (t_WITH_TWO:Tbl K mg "WITH_TWO" (Jm mg)) (nc_taste_of:NoC K mg "taste_of") (nc_cut_cuts:NoC K mg "cut_cuts") (nc_fewest_leaving:NoC K mg "fewest_leaving") (nc_two_hands_leaving:NoC K mg "two_hands_leaving") (z_ValueError:PySem.W.nsIn K mainGlobals "ValueError"=some none) (z_all:PySem.W.nsIn K mainGlobals "all"=some none) (z_any:PySem.W.nsIn K mainGlobals "any"=some none) (z_bool:PySem.W.nsIn K mainGlobals "bool"=some none) (z_int:PySem.W.nsIn K mainGlobals "int"=some none) (z_isinstance:PySem.W.nsIn K mainGlobals "isinstance"=some none) (z_len:PySem.W.nsIn K mainGlobals "len"=some none) (z_list:PySem.W.nsIn K mainGlobals "list"=some none) (z_min:PySem.W.nsIn K mainGlobals "min"=some none) (z_range:PySem.W.nsIn K mainGlobals "range"=some none) (z_str:PySem.W.nsIn K mainGlobals "str"=some none) (z_sum:PySem.W.nsIn K mainGlobals "sum"=some none) (z_tuple:PySem.W.nsIn K mainGlobals "tuple"=some none) (z_zip:PySem.W.nsIn K mainGlobals "zip"=some none) (y_FIGURES:PySem.W.nsIn K mainGlobals "FIGURES"=some (some (.str "0123456789" t_FIGURES))) (y_HIGHEST_AMOUNT:PySem.W.nsIn K mainGlobals "HIGHEST_AMOUNT"=some (some (.int 1000000000000000000 t_HIGHEST_AMOUNT))) (y_HIGHEST_PRICE:PySem.W.nsIn K mainGlobals "HIGHEST_PRICE"=some (some (.int 1000000000 t_HIGHEST_PRICE))) (y_LETTERS:PySem.W.nsIn K mainGlobals "LETTERS"=some (some (.str "abcdefghijklmnopqrstuvwxyz" t_LETTERS))) (y_LONGEST_NAME:PySem.W.nsIn K mainGlobals "LONGEST_NAME"=some (some (.int 8 t_LONGEST_NAME))) (y_MOST_DAYS:PySem.W.nsIn K mainGlobals "MOST_DAYS"=some (some (.int 8 t_MOST_DAYS))) (y_MOST_FIGURES:PySem.W.nsIn K mainGlobals "MOST_FIGURES"=some (some (.int 19 t_MOST_FIGURES))) (y_MOST_WARES:PySem.W.nsIn K mainGlobals "MOST_WARES"=some (some (.int 6 t_MOST_WARES))) (y_NOTHING:PySem.W.nsIn K mainGlobals "NOTHING"=some (some (.str "-" t_NOTHING))):Md K mg:=by
 have e_NoBook:clsA mg "NoBook"=c_NoBook:=by unfold clsA; rw [PySem.W.mg_of X G n_NoBook]
 have e_NoDay:clsA mg "NoDay"=c_NoDay:=by unfold clsA; rw [PySem.W.mg_of X G n_NoDay]
 have e_NoName:clsA mg "NoName"=c_NoName:=by unfold clsA; rw [PySem.W.mg_of X G n_NoName]
 have e_NoRow:clsA mg "NoRow"=c_NoRow:=by unfold clsA; rw [PySem.W.mg_of X G n_NoRow]
 have e_NoTaste:clsA mg "NoTaste"=c_NoTaste:=by unfold clsA; rw [PySem.W.mg_of X G n_NoTaste]
 have e_NoText:clsA mg "NoText"=c_NoText:=by unfold clsA; rw [PySem.W.mg_of X G n_NoText]
 have e_TasteError:clsA mg "TasteError"=c_TasteError:=by unfold clsA; rw [PySem.W.mg_of X G n_TasteError]
 have e_Twice:clsA mg "Twice"=c_Twice:=by unfold clsA; rw [PySem.W.mg_of X G n_Twice]
 exact ⟨PySem.W.mg_none_of X G z_ValueError,PySem.W.mg_none_of X G z_all,PySem.W.mg_none_of X G z_any,PySem.W.mg_none_of X G z_bool,PySem.W.mg_none_of X G z_int,PySem.W.mg_none_of X G z_isinstance,PySem.W.mg_none_of X G z_len,PySem.W.mg_none_of X G z_list,PySem.W.mg_none_of X G z_min,PySem.W.mg_none_of X G z_range,PySem.W.mg_none_of X G z_str,PySem.W.mg_none_of X G z_sum,PySem.W.mg_none_of X G z_tuple,PySem.W.mg_none_of X G z_zip,⟨_,PySem.W.mg_of X G y_FIGURES⟩,⟨_,PySem.W.mg_of X G y_HIGHEST_AMOUNT⟩,⟨_,PySem.W.mg_of X G y_HIGHEST_PRICE⟩,⟨_,PySem.W.mg_of X G y_LETTERS⟩,⟨_,PySem.W.mg_of X G y_LONGEST_NAME⟩,⟨_,PySem.W.mg_of X G y_MOST_DAYS⟩,⟨_,PySem.W.mg_of X G y_MOST_FIGURES⟩,⟨_,PySem.W.mg_of X G y_MOST_WARES⟩,⟨_,PySem.W.mg_of X G y_NOTHING⟩,e_NoBook ▸ ⟨PySem.W.mg_of X G n_NoBook,q_NoBook⟩,e_NoDay ▸ ⟨PySem.W.mg_of X G n_NoDay,q_NoDay⟩,e_NoName ▸ ⟨PySem.W.mg_of X G n_NoName,q_NoName⟩,e_NoRow ▸ ⟨PySem.W.mg_of X G n_NoRow,q_NoRow⟩,e_NoTaste ▸ ⟨PySem.W.mg_of X G n_NoTaste,q_NoTaste⟩,e_NoText ▸ ⟨PySem.W.mg_of X G n_NoText,q_NoText⟩,e_TasteError ▸ ⟨PySem.W.mg_of X G n_TasteError,q_TasteError⟩,e_Twice ▸ ⟨PySem.W.mg_of X G n_Twice,q_Twice⟩,by rw [e_NoBook]; exact s_NoBook_NoBook,by rw [e_NoBook,e_TasteError]; exact s_NoBook_TasteError,by rw [e_NoDay]; exact s_NoDay_NoDay,by rw [e_NoDay,e_TasteError]; exact s_NoDay_TasteError,by rw [e_NoName]; exact s_NoName_NoName,by rw [e_NoName,e_TasteError]; exact s_NoName_TasteError,by rw [e_NoRow]; exact s_NoRow_NoRow,by rw [e_NoRow,e_TasteError]; exact s_NoRow_TasteError,by rw [e_NoTaste]; exact s_NoTaste_NoTaste,by rw [e_NoTaste,e_TasteError]; exact s_NoTaste_TasteError,by rw [e_NoText]; exact s_NoText_NoText,by rw [e_NoText,e_TasteError]; exact s_NoText_TasteError,by rw [e_TasteError]; exact s_TasteError_TasteError,by rw [e_Twice]; exact s_Twice_Twice,by rw [e_Twice,e_TasteError]; exact s_Twice_TasteError,by rw [e_NoBook]; exact v_NoBook,by rw [e_NoDay]; exact v_NoDay,by rw [e_NoName]; exact v_NoName,by rw [e_NoRow]; exact v_NoRow,by rw [e_NoTaste]; exact v_NoTaste,by rw [e_NoText]; exact v_NoText,by rw [e_TasteError]; exact v_TasteError,by rw [e_Twice]; exact v_Twice,by rw [e_NoBook]; exact ⟨ga_NoBook,gn_NoBook,be_NoBook,at_NoBook,gt_NoBook,tk_NoBook,ob_NoBook,cl_NoBook⟩,by rw [e_NoBook,e_NoDay,e_NoTaste]; exact j_NoBook_0,by rw [e_NoBook]; exact ky_NoBook_NoBook,by rw [e_NoBook,e_Twice]; exact ky_NoBook_Twice,by rw [e_NoBook,e_NoText]; exact ky_NoBook_NoText,by rw [e_NoBook,e_NoName]; exact ky_NoBook_NoName,by rw [e_NoBook,e_NoRow]; exact ky_NoBook_NoRow,by rw [e_NoDay]; exact ⟨ga_NoDay,gn_NoDay,be_NoDay,at_NoDay,gt_NoDay,tk_NoDay,ob_NoDay,cl_NoDay⟩,by rw [e_NoDay,e_NoTaste]; exact j_NoDay_0,by rw [e_NoDay,e_NoBook]; exact ky_NoDay_NoBook,by rw [e_NoDay,e_Twice]; exact ky_NoDay_Twice,by rw [e_NoDay,e_NoText]; exact ky_NoDay_NoText,by rw [e_NoDay,e_NoName]; exact ky_NoDay_NoName,by rw [e_NoDay,e_NoRow]; exact ky_NoDay_NoRow,by rw [e_NoName]; exact ⟨ga_NoName,gn_NoName,be_NoName,at_NoName,gt_NoName,tk_NoName,ob_NoName,cl_NoName⟩,by rw [e_NoName,e_NoDay,e_NoTaste]; exact j_NoName_0,by rw [e_NoName,e_NoBook]; exact ky_NoName_NoBook,by rw [e_NoName,e_Twice]; exact ky_NoName_Twice,by rw [e_NoName,e_NoText]; exact ky_NoName_NoText,by rw [e_NoName]; exact ky_NoName_NoName,by rw [e_NoName,e_NoRow]; exact ky_NoName_NoRow,by rw [e_NoRow]; exact ⟨ga_NoRow,gn_NoRow,be_NoRow,at_NoRow,gt_NoRow,tk_NoRow,ob_NoRow,cl_NoRow⟩,by rw [e_NoRow,e_NoDay,e_NoTaste]; exact j_NoRow_0,by rw [e_NoRow,e_NoBook]; exact ky_NoRow_NoBook,by rw [e_NoRow,e_Twice]; exact ky_NoRow_Twice,by rw [e_NoRow,e_NoText]; exact ky_NoRow_NoText,by rw [e_NoRow,e_NoName]; exact ky_NoRow_NoName,by rw [e_NoRow]; exact ky_NoRow_NoRow,by rw [e_NoText]; exact ⟨ga_NoText,gn_NoText,be_NoText,at_NoText,gt_NoText,tk_NoText,ob_NoText,cl_NoText⟩,by rw [e_NoText,e_NoDay,e_NoTaste]; exact j_NoText_0,by rw [e_NoText,e_NoBook]; exact ky_NoText_NoBook,by rw [e_NoText,e_Twice]; exact ky_NoText_Twice,by rw [e_NoText]; exact ky_NoText_NoText,by rw [e_NoText,e_NoName]; exact ky_NoText_NoName,by rw [e_NoText,e_NoRow]; exact ky_NoText_NoRow,by rw [e_Twice]; exact ⟨ga_Twice,gn_Twice,be_Twice,at_Twice,gt_Twice,tk_Twice,ob_Twice,cl_Twice⟩,by rw [e_Twice,e_NoDay,e_NoTaste]; exact j_Twice_0,by rw [e_Twice,e_NoBook]; exact ky_Twice_NoBook,by rw [e_Twice]; exact ky_Twice_Twice,by rw [e_Twice,e_NoText]; exact ky_Twice_NoText,by rw [e_Twice,e_NoName]; exact ky_Twice_NoName,by rw [e_Twice,e_NoRow]; exact ky_Twice_NoRow,by rw [e_NoName,e_NoRow]; exact nm_NoName_NoRow,by rw [e_NoText,e_NoRow]; exact nm_NoText_NoRow,by rw [e_NoText,e_NoName]; exact nm_NoText_NoName,by rw [e_Twice,e_NoRow]; exact nm_Twice_NoRow,by rw [e_Twice,e_NoName]; exact nm_Twice_NoName,by rw [e_Twice,e_NoText]; exact nm_Twice_NoText,by rw [e_NoBook,e_NoRow]; exact nm_NoBook_NoRow,by rw [e_NoBook,e_NoName]; exact nm_NoBook_NoName,by rw [e_NoBook,e_NoText]; exact nm_NoBook_NoText,by rw [e_NoBook,e_Twice]; exact nm_NoBook_Twice,o_Ledger,o_Desk,na_Ledger_kept,na_Desk_ledger,al_cost_days,t_KINDS,t_ALONE,t_WITH_ONE,t_WITH_TWO,nc_taste_of,nc_cut_cuts,nc_fewest_leaving,nc_two_hands_leaving⟩
theorem Z1g:("x":Str)=sg 120:=by decide +kernel
theorem U3:(" ":Str)=sg 32:=by decide +kernel
theorem Z24:decS ((0:Nat):Int)=("0":Str):=by decide +kernel
theorem Zhz:(10:Nat) ^ 19=10000000000000000000:=by decide
theorem Zv8 {m:Nat} (h:m<10 ^ 19):(m:Int).natAbs.log2<1920:=by
 rw [Int.natAbs_natCast]
 rcases Nat.eq_zero_or_pos m with z | z
 · subst z; decide
 · exact (Nat.log2_lt (by omega)).mpr (Nat.lt_of_lt_of_le h (by decide +kernel))
theorem Zpb {K:Fq} {H:Hp} {Q:VK} {z:Str} (hz:z.length<=1000) (q:Q (.int (z.length:Nat)) H):rLenU K [.str z] H Q:=⟨.str z,z.length,rfl,⟨Nat.le_trans hz (by decide),rfl⟩,q⟩
theorem Z4d {n:Nat} {ys:List V} (hy:ys.length=n) (h:∀ (i:Nat) v,ys[i]?=some v->v=.bl true):ys=(List.replicate n true).map V.bl:=by
 rw [List.map_replicate]
 exact List.eq_replicate_iff.mpr ⟨hy,λ b hb=>let ⟨i,hi⟩:=List.getElem?_of_mem hb; h i b hi⟩
theorem Zxk {p b:Nat} (hp:p<10 ^ 19) (hb:b<10 ^ 19):(Yk (p:Nat) (b:Nat)).length<=39:=by
 have l1:=(Zex (k:=19) (by decide) hp).2
 have l2:=(Zex (k:=19) (by decide) hb).2
 unfold Yk
 rw [PySem.Str.length_append,PySem.Str.length_append]
 have:(sg 120).length=1:=rfl
 omega
theorem Kq {x:Int} (h:0<=x):∃ m:Nat,x=(m:Nat):=⟨x.toNat,by omega⟩
theorem Z0m:∀ c,c<128->(!(Builtin.Str.occurrences ("abcdefghijklmnopqrstuvwxyz":Str) ⟨#[c]⟩ 0 ("abcdefghijklmnopqrstuvwxyz":Str).length 1).isEmpty)=(decide (97<=c) && decide (c<=122)):=by decide +kernel
theorem Zxz {K:Fq} {mg:Str->Option Value} (M:Md K mg) {a:V} {H:Hp} {Q:VK} {E:XK} (h:Zpw K mg a H Q E):Ziv K mg E (Rt Q) [some a] H:=by
 obtain ⟨d,r,q1,q2⟩:=h
 unfold Ziv
 refine Zu (Yv (w_not (Wu (Z5 (Zb (Zd rfl (Zh ⟨_,rfl,d,r,λ H1 s1=>Jh ?_⟩)))))))
 cases e:Xo d with
 | true=>exact iteF (Zjo (w_c (q1 e H1 s1)))
 | false=>exact iteT (W4 (Zb (w_c (Zh ⟨by show 1<=sizeLine; decide,q2 e H1 s1⟩))))
theorem Zty {K:Fq} {a:V} {H:Hp} {Q:VK} {E:XK} (h:Zj4 K a H Q E):Zfa K (Rt Q) [some a] H:=by
 obtain ⟨w,rfl,asc,q⟩:=h
 have l9:=asc.len
 have bad:∀ H',Same H H'->¬ (1<=w.length/\w.length<=8)->Q (.bl false) H':=λ H' s z=>by
  have:Xb w=false:=by
   unfold Xb
   rw [Bool.and_eq_false_iff]
   left
   rw [Bool.and_eq_false_iff]
   rcases Nat.lt_or_ge w.length 1 with y | y
   · left; exact decide_eq_false (by omega)
   · right; exact decide_eq_false (by omega)
  rw [← this]; exact q H' s
 unfold Zfa
 refine Z4 (Ui (Za7 (w_c (Ye (Zb (Zd rfl (Zh (Zpb l9 (Vk (Xc (iteD (λ h1=>w_c (Vk ⟨_,rfl,iteD (λ h2=>?_) λ h2=>?_⟩)) λ h1=>⟨false,rfl,iteF (bad _ (Same.refl _) (by omega))⟩)))))))))))
 · refine Ye (Zb (Jk (Zu5 (Zd rfl ⟨w,rfl,Zta.mpr asc.1,λ D hD=>?_⟩))))
   refine Zjj D (w.cps.toList.map λ c=>V.str ⟨#[c]⟩) (λ i ys σ2 H2=>ys=((w.cps.toList.take i).map λ c=>decide (97<=c) && decide (c<=122)).map V.bl/\Same H H2/\∃ r0,σ2=[r0]) (by rw [List.length_map,X6]; omega) (λ i ys σ H2 h=>by rw [h.1,List.length_map,List.length_map,List.length_take]; omega) (λ i ys σ H2 _ _=>Zwh _ H2 i) ⟨rfl,Same.laid hD,_,rfl⟩ ?_ ?_
   · rintro i x ys σ2 H2 hx ⟨rfl,s2,r0,rfl⟩ hH
     rw [List.getElem?_map] at hx
     obtain ⟨c,hc,rfl⟩:=Option.map_eq_some_iff.mp hx
     have dg:=asc.1 c (List.mem_of_getElem? hc)
     refine Zw (Ze4 (iteT (Zk (Zd rfl (w_c ⟨_,_,rfl,rfl,?_⟩)))))
     rw [Z0m c dg]
     refine ⟨hH,?_,s2.put hD,_,rfl⟩
     rw [List.take_add_one,hc]
     simp
   · rintro ys σ2 H2 ⟨rfl,s2,_⟩ hH
     refine Zh (Zbb (.inl (SqL.of hH)) ?_)
     have e:(((w.cps.toList.take (w.cps.toList.map λ c=>V.str ⟨#[c]⟩).length).map λ c=>decide (97<=c) && decide (c<=122)).all id)=Xb w:=by
      rw [List.length_map,List.take_length,List.all_map]
      unfold Xb lowB
      rw [decide_eq_true (show 1<=w.length by omega),decide_eq_true (show w.length<=8 by omega)]
      rfl
     rw [e]
     exact q H2 s2
 · exact bad _ (Same.refl _) (by omega)
theorem Zn4 {K:Fq} {mg:Str->Option Value} (M:Md K mg) {a:V} {H:Hp} {Q:VK} {E:XK} (h:Zgb K mg a H Q E):Em K mg E (Rt Q) [some a] H:=by
 obtain ⟨w,rfl,asc,q1,q2⟩:=h
 unfold Em
 refine Yv (w_not (Wu (Z5 (Zb (Zd rfl (Zh ⟨_,rfl,w,rfl,asc,λ H1 s1=>Jh ?_⟩))))))
 cases e:Xb w with
 | true=>exact iteF (Ys (q1 e H1 s1))
 | false=>exact iteT (W4 (Zb (w_c (Zh ⟨by show 1<=sizeLine; decide,q2 e H1 s1⟩))))
theorem Led.mono {mg:Str->Option Value} {H H':Hp} {v:V} {d:Addr} {kvs:Kvs} (s:Same H H') (L:Led mg H v d kvs):Led mg H' v d kvs:=by
 obtain ⟨⟨a,dx,e,h⟩,k,n,l⟩:=L
 exact ⟨⟨a,dx,e,s _ _ h⟩,s _ _ k,n,l⟩
theorem Same.sb {d:Addr} {H H':Hp} (s:Same H H'):SameB d H H':=λ b o _ h=>s b o h
theorem SameB.trans {d:Addr} {H H1 H2:Hp} (a:SameB d H H1) (b:SameB d H1 H2):SameB d H H2:=λ c o n h=>b c o n (a c o n h)
theorem SameB.put {d:Addr} {H H1:Hp} {o:HO} (s:SameB d H H1):SameB d H (upd H1 d o):=λ c u n h=>by rw [Z1 n]; exact s c u n h
theorem SameB.tu {d:Addr} {H H':Hp} {kvs:List (Key×V)} (s:SameB d H H') (hd:H d=some (.dK kvs)):Tu H H':=λ b xs h=>s b _ (λ z=>by rw [z,hd] at h; cases h) h
theorem Z0o (kvs:Kvs):(dkv kvs).map (·.2)=kvs.map (·.2):=by unfold dkv; rw [List.map_map]; rfl
theorem Zyf (kvs:Kvs):((dkv kvs).map λ kv=>kV kv.1)=(Z2 kvs).map V.str:=by unfold dkv; rw [List.map_map,List.map_map]; rfl
theorem Zhm:∀ (kvs:Kvs) (nm:Str),(valV (dkv kvs) (Sum.inr nm)).isSome=decide (nm∈Z2 kvs)
 | [],nm=>by simp [dkv,valV]
 | p::kvs,nm=>by
   have ih:=Zhm kvs nm
   have e:dkv (p::kvs)=((Sum.inr p.1:Key),p.2)::dkv kvs:=rfl
   rw [e,← Zbc]
   rw [← Zbc] at ih
   rw [List.any_cons,ih]
   by_cases h:p.1=nm
   · subst h
     simp
   · have h2:¬ (Sum.inr p.1:Key)=Sum.inr nm:=λ z=>h (Sum.inr.inj z)
     rw [decide_eq_false h2,Bool.false_or]
     have h3:¬ nm=p.1:=λ z=>h z.symm
     simp [Z2,h3]
theorem Led.fld {mg:Str->Option Value} {H:Hp} {v:V} {d:Addr} {kvs:Kvs} {K:Fq} (M:Md K mg) (L:Led mg H v d kvs) {σ:St} {n:Nat} {Q:VK} (e:σ[n]?=some (some v)) (q:Q (.ref d) H):Kg K (Zc n) "kept" σ H Q:=by
 obtain ⟨⟨a,dx,rfl,h⟩,_⟩:=L
 exact Zy3 (Zd e ⟨a,_,dx,_,.ref d,rfl,h,M.o_Ledger.cl,M.na_Ledger_kept,rfl,q⟩)
theorem Led.meth {mg:Str->Option Value} {H:Hp} {v:V} {d:Addr} {kvs:Kvs} (L:Led mg H v d kvs) {σ:St} {n:Nat} {Q:VK} {m:Str} {sp:Sp} {E:XK} {t:TA} (e:σ[n]?=some (some v)) (hm:(m == ("kept":Str))=false) (q:t σ H λ vs H2=>sp (v::(vs++[])) H2 Q E):Yw (clsA mg "Ledger") m sp [] E (Zc n) t σ H Q:=by
 obtain ⟨⟨a,dx,rfl,h⟩,_⟩:=L
 exact Zu3 (Zd e ⟨a,dx,_,rfl,h,by rw [List.lookup_cons,hm]; rfl,q⟩)
theorem Led.methD {mg:Str->Option Value} {H:Hp} {v:V} {d:Addr} {kvs:Kvs} (L:Led mg H v d kvs) {σ:St} {n:Nat} {Q:VK} {m:Str} {sp:Sp} {E:XK} {t:TA} (e:σ[n]?=some (some v)) (hm:(m == ("kept":Str))=false) (q:t σ H λ vs H2=>sp (v::(vs++[.non])) H2 Q E):Yw (clsA mg "Ledger") m sp [.non] E (Zc n) t σ H Q:=by
 obtain ⟨⟨a,dx,rfl,h⟩,_⟩:=L
 exact ⟨_,e,a,dx,_,rfl,h,by rw [List.lookup_cons,hm]; rfl,q⟩
theorem Led.get {mg:Str->Option Value} {H:Hp} {v:V} {d:Addr} {kvs:Kvs} (L:Led mg H v d kvs) (nm:Str):DGet H d (.str nm) (valV (dkv kvs) (Sum.inr nm)):=DGet.k (k:=Sum.inr nm) L.kept
theorem Zmg {K:Fq} {mg:Str->Option Value} (M:Md K mg) {a:V} {H:Hp} {Q:VK} {E:XK} (h:Zek K mg a H Q E):Hq K mg (Rt Q) [some a] H:=by
 obtain ⟨p,dx,rfl,hp,q⟩:=h
 unfold Hq
 exact Zu0 (Z1o λ d hd=>Zd rfl ⟨p,_,dx,[],rfl,Same.laid hd _ _ hp,M.o_Ledger.cl,M.na_Ledger_kept,by decide,q d hd⟩)
theorem Zcd {K:Fq} {mg:Str->Option Value} (M:Md K mg) {a b:V} {H:Hp} {Q:VK} {E:XK} (h:Up K mg a b H Q E):Jl K mg E (Rt Q) [some a,some b] H:=by
 obtain ⟨d,kvs,nm,L,rfl,q1,q2⟩:=h
 unfold Jl
 refine Yv (Zo6 (Zxn (Zd rfl (L.fld M rfl ⟨d,_,rfl,L.get nm,⟨_,rfl,?_⟩⟩))))
 rw [Zhm]
 exact iteN (λ z=>W4 (Zb (w_c (Zh ⟨by show 1<=sizeLine; decide,q2 z⟩)))) λ z=>Ys (q1 z)
theorem Z00 (kvs:Kvs) (nm:Str):Za4 (dkv kvs) (Sum.inr nm)=dkv (kvs.filter λ p=>!decide (p.1=nm)):=by
 unfold Za4 dkv
 rw [List.filter_map]
 congr 1
 refine List.filter_congr λ p _=>?_
 show decide ((Sum.inr p.1:Key)≠Sum.inr nm)=!decide (p.1=nm)
 rw [← Zwc,← decide_not]
theorem Zzu {td ty:TE} {σ:St} {H:Hp} {Q:VK} (h:td σ H λ x H1=>∃ a,x=.ref a/\IsD H1 a/\ty σ H1 λ y H2=>∃ kvs k v,H2 a=some (.dK kvs)/\y=kV k/\valV kvs k=some v/\Q v (upd H2 a (.dK (Za4 kvs k)))):Zpi td ty σ H Q:=h
theorem Zmf {K:Fq} {mg:Str->Option Value} (M:Md K mg) {a b:V} {H:Hp} {Q:VK} {E:XK} (h:Zej K mg a b H Q E):Ho K mg E (Rt Q) [some a,some b] H:=by
 obtain ⟨d,kvs,nm,L,rfl,q1,q2⟩:=h
 unfold Ho
 refine Zu (Jj (L.meth rfl (by decide) (Zb (Zd rfl (Zh ⟨_,_,rfl,d,kvs,nm,L,rfl,λ hin=>?_,q2⟩)))))
 refine Jj (Zzu (L.fld M rfl ⟨d,rfl,.inl ⟨_,.inl L.kept⟩,Zd rfl ?_⟩))
 obtain ⟨v,hv⟩:=Option.isSome_iff_exists.mp (show (valV (dkv kvs) (Sum.inr nm)).isSome=true by rw [Zhm,decide_eq_true hin])
 refine ⟨_,Sum.inr nm,v,L.kept,rfl,hv,q1 hin _ (SameB.put λ b o _ h=>h) ?_⟩
 obtain ⟨⟨p,dx,rfl,hp⟩,k,n,l⟩:=L
 refine ⟨⟨p,dx,rfl,by rw [Z1 (Zfy hp k (by simp))]; exact hp⟩,by rw [Zr,Z00],?_,Nat.le_trans (List.length_filter_le ..) l⟩
 exact n.sublist (List.filter_sublist.map _)
theorem Zke {K:Fq} {mg:Str->Option Value} (M:Md K mg) {a:V} {H:Hp} {Q:VK} {E:XK} (h:Zc3 K mg a H Q E):Vs K mg (Rt Q) [some a] H:=by
 obtain ⟨d,kvs,L,q⟩:=h
 unfold Vs
 refine Z4 (Ye (Zb (L.fld M rfl (Zh (Zzr L.kept λ p hp=>q p _ (Same.laid hp) hp ?_)))))
 rw [Zr,Zyf]
theorem Zzt {td:TE} {σ:St} {H:Hp} {Q:VK} (h:td σ H λ x H1=>∃ a kvs,x=.ref a/\H1 a=some (.dK kvs)/\∀ p,H1 p=none->Q (.ref p) (upd H1 p (.ext (VwP p a)))):Zgx td σ H Q:=h
theorem Led.vals {mg:Str->Option Value} {H:Hp} {v:V} {d:Addr} {kvs:Kvs} {K:Fq} (M:Md K mg) (L:Led mg H v d kvs) {σ:St} {n:Nat} {Q:VK} (e:σ[n]?=some (some v)) (q:∀ p H',Same H H'->H' p=some (.tup (kvs.map (·.2)))->Q (.ref p) H'):tCB Zkf (Za (Zgx (Kg K (Zc n) "kept")) Zg) σ H Q:=by
 refine Ye (Zb (Zzt (L.fld M e ⟨d,_,rfl,L.kept,λ p hp=>Zh (Z1h Zr (Same.laid hp _ _ L.kept) λ t ht=>q t _ ((Same.laid hp).laidT ht) ?_)⟩)))
 rw [Zr,Z0o]
theorem Zmi {K:Fq} {mg:Str->Option Value} (M:Md K mg) {a:V} {H:Hp} {Q:VK} {E:XK} (h:Zel K mg a H Q E):Hs K mg E (Rt Q) [some a] H:=by
 obtain ⟨d,kvs,L,q1,q2⟩:=h
 unfold Hs
 have e:(dkv kvs).length=kvs.length:=by unfold dkv; rw [List.length_map]
 refine Zu (Yv (Xe (Zk (Ye (Zb (L.fld M rfl (Zh (Z1m L.kept (w_c (Qm (Xc (iteD (λ z=>?_) λ z=>?_))))))))))))
 · exact W4 (Zb (w_c (Zh ⟨by show 1<=sizeLine; decide,q1 (List.length_eq_zero_iff.mp (by omega))⟩)))
 · exact Ys (Z4 (L.vals M rfl (q2 λ y=>z (by rw [e,y]; rfl))))
theorem Zjg {ks:List Str} {nm:Str} (nd:ks.Nodup) {j:Nat} (h:ks[j]?=some nm):∀ i,i<j->ks[i]?≠some nm:=λ i hi z=>by
 have h1:=(List.getElem?_eq_some_iff.mp h)
 have h2:=(List.getElem?_eq_some_iff.mp z)
 obtain ⟨a1,b1⟩:=h1
 obtain ⟨a2,b2⟩:=h2
 have e:i=j:=(List.getElem_inj nd).mp (b2.trans b1.symm)
 omega
theorem Zgk {K:Fq} {mg:Str->Option Value} (M:Md K mg) {a b:V} {H:Hp} {Q:VK} {E:XK} (h:Hg K mg a b H Q E):W9 K mg E (Rt Q) [some a,some b] H:=by
 obtain ⟨d,kvs,nm,L,rfl,q1,q2⟩:=h
 unfold W9
 refine Zu (Jj (L.meth rfl (by decide) (Zb (Zd rfl (Zh ⟨_,_,rfl,d,kvs,nm,L,rfl,λ hin=>?_,q2⟩)))))
 obtain ⟨j,hj⟩:=List.mem_iff_getElem?.mp hin
 refine Z4 (K1 (L.meth rfl (by decide) (Zh ⟨_,rfl,d,kvs,L,λ p H1 s1 _ h1=>⟨Zhy h1,Zb (Zd rfl (Zh (Zxm h1 hj (Zjg L.nd hj) (q1 j hj H1 s1))))⟩⟩)))
theorem Zid {K:Fq} {mg:Str->Option Value} (M:Md K mg) {a b c:V} {H:Hp} {Q:VK} {E:XK} (h:Wj K mg a b c H Q E):Ke K mg E (Rt Q) [some a,some b,some c,none,none] H:=by
 obtain ⟨d,kvs,n1,n2,L,rfl,rfl,ho,q⟩:=h
 unfold Ke
 refine Zu (Z0 (L.meth rfl (by decide) (Zb (Zd rfl (Zh ⟨_,_,rfl,d,kvs,n1,L,rfl,λ j hj H1 s1=>Zw ?_,λ _=>q H (Same.refl _)⟩)))))
 have hin:n1∈Z2 kvs:=List.mem_of_getElem? hj
 have no:n2 ∉ Z2 kvs:=ho.resolve_left λ z=>z hin
 try dsimp only
 exact Zu (Z0 ((L.mono s1).meth rfl (by decide) (Zb (Zd rfl (Zh ⟨_,_,rfl,d,kvs,n2,L.mono s1,rfl,λ j hj=>absurd (List.mem_of_getElem? hj) no,λ _=>q H1 s1⟩)))))
theorem Ze6 {t:TA} {σ:St} {H:Hp} {Q:VK} (h:t σ H λ _ _=>False):Za8 t σ H Q:=h
theorem Led.no {mg:Str->Option Value} {H:Hp} {v:V} {d:Addr} {K:Fq} (L:Led mg H v d []) {σ:St} {n:Nat} {Q:VK} {E:XK} (e:σ[n]?=some (some v)) (q:E (NoB mg) none H):Yw (clsA mg "Ledger") "book" (Yx K mg) [] E (Zc n) Zg σ H Q :=
 L.meth e (by decide) (Zh ⟨_,rfl,d,[],L,λ _=>q,λ z=>absurd rfl z⟩)
theorem Zkd {K:Fq} {mg:Str->Option Value} (M:Md K mg) {a b:V} {H:Hp} {Q:VK} {E:XK} (h:Qu mg a H Q E):Vr K mg E (Rt Q) [some a,some b,none] H:=by
 obtain ⟨d,L,q⟩:=h
 unfold Vr
 exact Zu (Z0 (Ze6 (Zb (L.no rfl q))))
theorem Zoa {K:Fq} {mg:Str->Option Value} (M:Md K mg) {a:V} {H:Hp} {Q:VK} {E:XK} (h:Qu mg a H Q E):Et K mg E (Rt Q) [some a] H:=by
 obtain ⟨d,L,q⟩:=h
 unfold Et
 exact Z4 (Ze6 (Zb (L.no rfl q)))
theorem Zi5 {K:Fq} {mg:Str->Option Value} (M:Md K mg) {a:V} {H:Hp} {Q:VK} {E:XK} (h:Qu mg a H Q E):K3 K mg E (Rt Q) [some a] H:=by
 obtain ⟨d,L,q⟩:=h
 unfold K3
 exact Z4 (L.meth rfl (by decide) (Zb (Ze6 (Zb (L.no rfl q)))))
theorem Zgj {K:Fq} {mg:Str->Option Value} (M:Md K mg) {a:V} {H:Hp} {Q:VK} {E:XK} (h:Qu mg a H Q E):W8 K mg E (Rt Q) [some a,none] H:=by
 obtain ⟨d,L,q⟩:=h
 unfold W8
 exact Zu (Z0 (Ze6 (Zb (L.no rfl q))))
theorem Z11 {kvs:Kvs} {nm:Str} {v:V} (h:nm ∉ Z2 kvs):putK (dkv kvs) (Sum.inr nm) v=dkv (kvs++[(nm,v)]):=by
 have e:valV (dkv kvs) (Sum.inr nm)=none:=by
  cases q:valV (dkv kvs) (Sum.inr nm) with
  | none=>rfl
  | some x =>
    have:=Zhm kvs nm
    rw [q,decide_eq_false h] at this
    cases this
 rw [Gk v e]
 unfold dkv
 rw [List.map_append]; rfl
theorem Zn9 {K:Fq} {mg:Str->Option Value} (M:Md K mg) {a b c e:V} {H:Hp} {Q:VK} {E:XK} (h:Zgg K mg a b c e H Q E):Es K mg E (Rt Q) [some a,some b,some c,some e,none] H:=by
 obtain ⟨d,kvs,nm,Ds,d1,d2,L,rfl,asc,rs,r1,r2,q1,q2,q3,q4⟩:=h
 unfold Es
 refine Zu (Jj (Z5 (Zb (Zd rfl (Zh ⟨_,rfl,nm,rfl,asc,λ hn H1 s1=>?_,λ hn H1 s1=>q1 hn H1 s1⟩)))))
 have L1:=L.mono s1
 refine Zu (Yv (Zo6 (Z3a (Zd rfl (L1.fld M rfl ⟨d,_,rfl,L1.get nm,⟨_,rfl,?_⟩⟩)))))
 rw [Zhm]
 refine iteD (λ z=>W4 (Zb (w_c (Zh ⟨by show 1<=sizeLine; decide,q2 hn z H1 s1⟩)))) λ z=>Ys ?_
 try dsimp only
 refine Zu (Z0 (Zcu (Zb (Zd rfl (Zb (Zd rfl (Zh ⟨by show 2<=sizeLine; decide,λ t ht=>Zw ?_⟩)))))))
 try dsimp only
 have s2:=s1.laidT (o:=.tup [c,e]) ht
 have e2:=Zr (H:=H1) (a:=t) (o:=.tup [c,e])
 generalize upd H1 t (.tup [c,e])=H2 at s2 e2 ⊢
 have L2:=L.mono s2
 refine Zu (Jj (Z5 (Zb (Zk (L2.vals M rfl λ p H3 s3 h3=>Zcu (Zb (Zd rfl (Zh ⟨by show 1<=sizeLine; decide,λ u hu=>?_⟩))))))))
 have s4:=s3.laidT (o:=.tup [.ref t]) hu
 have e4:=Zr (H:=H3) (a:=u) (o:=.tup [.ref t])
 have e4':=Same.laid (o:=.tup [.ref t]) hu _ _ h3
 generalize upd H3 u (.tup [.ref t])=H4 at s4 e4 e4' ⊢
 refine Zti e4' e4 (by have:=L.len; simp; omega) λ w H5 s5 h5=>Zh ?_
 have s05:Same H H5:=(s2.trans s4).trans s5
 have rt:Rep H5 (.ref t) (.tuple [d1,d2]):=Gh ((s4.trans s5) _ _ e2) (Ea (Rep.mono s05 _ _ r1) (Ea (Rep.mono s05 _ _ r2) Vb))
 refine ⟨_,rfl,.tuple (Ds++[.tuple [d1,d2]]),Gh h5 (Zi4 (Reps.mono s05 _ _ rs) (Ea rt Vb)),λ ok H6 s6=>?_,λ bad H6 s6=>q3 hn z bad H6 (s05.trans s6)⟩
 have s06:=s05.trans s6
 have L6:=L.mono s06
 refine Zjr (Zd rfl (L6.fld M rfl (Zd rfl ⟨d,_,rfl,DPut.k (k:=Sum.inr nm) L6.kept ?_,q4 hn z ok t _ (SameB.put (Same.sb s06)) ?_ ?_⟩)))
 · have:=L.len
   unfold dkv
   rw [List.length_map,sizeLine_eq]; omega
 · have ht6:H6 t=some (.tup [c,e]):=((s4.trans s5).trans s6) _ _ e2
   rw [Z1 (Zfy ht6 L6.kept (by simp))]
   exact ht6
 · have m8:kvs.length+1<=8:=by
    have r:=Reps.length rs
    rw [List.length_map] at r
    have ok2:=ok
    unfold Xo at ok2
    rw [Bool.and_eq_true,Bool.and_eq_true] at ok2
    have tb:=ok2.1.1
    have tb2:(decide (1<=(Ds++[PyData.tuple [d1,d2]]).length) && decide ((Ds++[PyData.tuple [d1,d2]]).length<=8))=true:=tb
    rw [Bool.and_eq_true] at tb2
    have:=of_decide_eq_true tb2.2
    rw [List.length_append,List.length_singleton] at this
    omega
   obtain ⟨⟨p',dx,rfl,hp⟩,k,n,l⟩:=L6
   refine ⟨⟨p',dx,rfl,by rw [Z1 (Zfy hp k (by simp))]; exact hp⟩,by rw [Zr,Z11 z],?_,by rw [List.length_append,List.length_singleton]; omega⟩
   show ((kvs++[(nm,V.ref t)]).map (·.1)).Nodup
   rw [List.map_append]
   have no:∀ x∈Z2 kvs,∀ y∈[(nm,V.ref t)].map (·.1),x≠y:=λ x hx y hy q=>by
    have hy':y=nm:=by simpa using hy
    rw [q,hy'] at hx
    exact z hx
   exact List.nodup_append.mpr ⟨n,by simp,no⟩
theorem Zp2 {K:Fq} {a:V} {H:Hp} {Q:VK} {E:XK} (h:Zg5 K a H Q E):Zbh K (Rt Q) [some a] H:=by
 obtain ⟨w,rfl,asc,q⟩:=h
 have l9:=asc.len
 have bad:∀ H',Same H H'->(¬ (1<=w.length/\w.length<=19)\/digB w=false)->Q (.bl false) H':=λ H' s z=>by
  have:numB w=false:=by
   cases e:numB w with
   | false=>rfl
   | true =>
     obtain ⟨a,b,c,_⟩:=Zc7 e
     rcases z with z | z
     · exact absurd ⟨a,b⟩ z
     · rw [c] at z; cases z
  rw [← this]
  exact q H' s
 unfold Zbh
 refine Zu (Yv (Zo8 (w_not (Xe (Za7 (w_c (Ye (Zb (Zd rfl (Zh (Zpb l9 (Vk (Xc (iteD (λ h1=>w_c (Vk (Xc ?_))) λ h1=>⟨false,rfl,iteT (iteT (Z4 (w_c (bad _ (Same.refl _) (.inl (by omega))))))⟩))))))))))))))
 refine iteB (λ z=>?_) λ z=>?_
 · have h2:¬ w.length<=19:=λ q=>by
    rw [decide_eq_true (show ((w.length:Nat):Int)<=19 by omega)] at z; cases z
   exact Z4 (w_c (bad _ (Same.refl _) (.inl (by omega))))
 have h2:w.length<=19:=by
  cases e:decide (((w.length:Nat):Int)<=19) with
  | true=>have:=of_decide_eq_true e; omega
  | false=>rw [e] at z; cases z
 have h1':1<=w.length:=by omega
 refine w_not (Wu (Ye (Zb (Jk (Zu5 (Zd rfl ⟨w,rfl,Zta.mpr asc.1,λ D hD=>?_⟩))))))
 refine Zjj D (w.cps.toList.map λ c=>V.str ⟨#[c]⟩) (λ i ys σ2 H2=>ys=((w.cps.toList.take i).map λ c=>decide (48<=c) && decide (c<=57)).map V.bl/\Same H H2/\∃ r0,σ2=[r0]) (by rw [List.length_map,X6]; omega) (λ i ys σ H2 h=>by rw [h.1,List.length_map,List.length_map,List.length_take]; omega) (λ i ys σ H2 _ _=>Zwh _ H2 i) ⟨rfl,Same.laid hD,_,rfl⟩ ?_ ?_
 · rintro i x ys σ2 H2 hx ⟨rfl,s2,r0,rfl⟩ hH
   rw [List.getElem?_map] at hx
   obtain ⟨c,hc,rfl⟩:=Option.map_eq_some_iff.mp hx
   have dg:=asc.1 c (List.mem_of_getElem? hc)
   refine Zw (Ze4 (iteT (Zk (Zd rfl (w_c ⟨_,_,rfl,rfl,?_⟩)))))
   rw [Z0x c dg]
   refine ⟨hH,?_,s2.put hD,_,rfl⟩
   rw [List.take_add_one,hc,Option.toList_some,List.map_append,List.map_append]; rfl
 · rintro ys σ2 H2 ⟨rfl,s2,_⟩ hH
   rw [List.length_map,List.take_length] at hH
   refine Zh (Zbb (.inl (SqL.of hH)) ?_)
   have ed:(w.cps.toList.map λ c=>decide (48<=c) && decide (c<=57)).all id=digB w:=by
    unfold digB
    rw [List.all_map]; rfl
   rw [ed]
   refine Jh (iteB (λ z=>?_) λ z=>Ys ?_)
   · exact Z4 (w_c (bad _ s2 (.inr (by simpa using z))))
   have h3:digB w=true:=by simpa using z
   try dsimp only
   have qn:=q H2 s2
   unfold numB at qn
   rw [decide_eq_true h1',decide_eq_true h2,h3,Bool.true_and,Bool.true_and,Bool.true_and] at qn
   refine Z4 (Z27 (Zk (Zd rfl (w_c (Zhx ⟨_,rfl,iteD (λ e=>?_) λ ne=>?_⟩)))))
   · rw [decide_eq_true e,Bool.true_or] at qn
     exact qn
   · rw [decide_eq_false ne,Bool.false_or] at qn
     exact Zu2 (K1 (Zd rfl ⟨rfl,Zb (w_c (Zh ⟨_,_,rfl,rfl,_,rfl,qn⟩))⟩))
theorem Zn3 {K:Fq} {mg:Str->Option Value} (M:Md K mg) {a:V} {H:Hp} {Q:VK} {E:XK} (h:Zga K mg a H Q E):El K mg E (Rt Q) [some a] H:=by
 obtain ⟨b,rfl,q1,q2⟩:=h
 unfold El
 cases b with
 | true=>exact Yv (w_not (Wu (Zd rfl (Jh (iteF (Ys (q1 rfl)))))))
 | false=>exact Yv (w_not (Wu (Zd rfl (Jh (iteT (W4 (Zb (w_c (Zh ⟨by show 1<=sizeLine; decide,q2 rfl⟩)))))))))
theorem Zp1 {K:Fq} {mg:Str->Option Value} (M:Md K mg) {a:V} {H:Hp} {Q:VK} {E:XK} (h:Zg3 K mg a H Q E):Zbg K mg E (Rt Q) [some a,none] H:=by
 obtain ⟨w,rfl,asc,q1,q2⟩:=h
 have sa:=Znb (c:=120) asc
 unfold Zbg
 refine Zu (Z0 (K1 (Zd rfl ⟨rfl,Zb (w_c (Zh ⟨w,120,rfl,by rw [Z1g]; rfl,asc.len,λ L hL=>Zw ?_⟩))⟩)))
 have s1:=Same.laid (o:=.lst ((Txt.split w ⟨#[120]⟩).map V.str)) hL
 have e1:=Zr (H:=H) (a:=L) (o:=.lst ((Txt.split w ⟨#[120]⟩).map V.str))
 generalize upd H L _=H1 at s1 e1 ⊢
 replace e1:H1 L=some (.lst ((Txt.split w (sg 120)).map V.str)):=e1
 try dsimp only
 refine Zu (Jj (Z5 (Zb (Ui (Zk (Ye (Zb (Zd rfl (Zh (Ji (SqL.of e1) (w_c (Qm ⟨_,rfl,iteD (λ two=>?_) λ two=>?_⟩))))))))))))
 · have tw:twoB w=true:=decide_eq_true (by rw [List.length_map] at two; omega)
   rw [Zu9 tw] at e1 sa
   replace e1:H1 L=some (.lst [.str (prtA w),.str (prtB w)]):=e1
   have aA:=sa _ (List.mem_cons_self ..)
   have aB:=sa (prtB w) (by simp)
   refine Ye (Zb (Jk (Vi (Zd rfl ⟨L,rfl,.inl ⟨⟨_,SqL.of e1⟩,λ D hD=>?_⟩⟩))))
   refine Uz (K:=K) (a:=L) (xs:=[.str (prtA w),.str (prtB w)]) (σr:=[]) (.inr ⟨rfl,e1⟩) D (λ i v _=>v=.bl ([numB (prtA w),numB (prtB w)].getD i true)) (λ _ _ _ _ _ z=>z) (by show 2<=1000; decide) hD ⟨none,rfl⟩ (λ j x H2 R hx s2 kk=>?_) λ ys H2 hy hall s2 h2=>?_
   · match j,hx with
     | 0,hx =>
       have:x=.str (prtA w):=by simpa using hx.symm
       subst this
       exact Z5 (Zb (Zd rfl (Zh ⟨_,rfl,_,rfl,aA,λ H' s'=>kk _ _ s' rfl⟩)))
     | 1,hx =>
       have:x=.str (prtB w):=by simpa using hx.symm
       subst this
       exact Z5 (Zb (Zd rfl (Zh ⟨_,rfl,_,rfl,aB,λ H' s'=>kk _ _ s' rfl⟩)))
     | j+2,hx=>cases hx
   · have ey:ys=[numB (prtA w),numB (prtB w)].map V.bl:=by
      match ys,hy with
      | [y1,y2],_=>rw [hall 0 y1 rfl,hall 1 y2 rfl]; rfl
     rw [ey] at h2
     have e2:=s2 _ _ e1
     have eb:[numB (prtA w),numB (prtB w)].all id=Q0 w:=by
      unfold Q0
      rw [tw]
      simp
     refine Zh (Zbb (.inl (SqL.of h2)) (Zh ?_))
     rw [eb]
     refine ⟨_,rfl,_,rfl,λ good=>?_,λ bad=>q2 bad _ (s1.trans s2)⟩
     have pr:=good
     unfold Q0 at pr
     rw [Bool.and_eq_true,Bool.and_eq_true] at pr
     obtain ⟨a1,a2,a3,_⟩:=Zc7 pr.2.1
     obtain ⟨b1,b2,b3,_⟩:=Zc7 pr.2.2
     try dsimp only
     exact Z4 (Zcu (Zb (Ye (Zb (Zk (Zd rfl (w_c (Yo (v:=.str (prtA w)) (SqL.of e2) rfl (Zh ⟨_,_,rfl,Zs1 a1 a2 a3,by omega,Zb (Ye (Zb (Zk (Zd rfl (w_c (Yo (v:=.str (prtB w)) (SqL.of e2) rfl (Zh ⟨_,_,rfl,Zs1 b1 b2 b3,by omega,Zh ⟨by show 2<=sizeLine; decide,λ t ht=>q1 good t _ ((s1.trans s2).laidT ht) Zr⟩⟩)))))))⟩)))))))))
 · have tw:twoB w=false:=decide_eq_false (λ z=>two (by rw [List.length_map,z]; rfl))
   have wf:Q0 w=false:=by unfold Q0; rw [tw]; rfl
   exact Zh ⟨_,rfl,false,rfl,(λ z=>by cases z),(λ _=>q2 wf _ s1)⟩
theorem Zm5 {f:Str->Int} {ws:List Str} {ys:List V} (hl:ys.length=ws.length) (h:∀ (i:Nat) v,ys[i]?=some v->∃ w,ws[i]?=some w/\v=.int (f w)):ys=(ws.map f).map V.int:=by
 apply List.ext_getElem?
 intro i
 cases e:ys[i]? with
 | none =>
   have:=List.getElem?_eq_none_iff.mp e
   rw [List.getElem?_eq_none (by rw [List.length_map,List.length_map]; omega)]
 | some v =>
   obtain ⟨w,hw,rfl⟩:=h i v e
   rw [List.getElem?_map,List.getElem?_map,hw]; rfl
theorem Zr2 {K:Fq} {mg:Str->Option Value} (M:Md K mg) {a:V} {H:Hp} {Q:VK} {E:XK} (h:Zij K mg a H Q E):Zdg K mg E (Rt Q) [some a,none,none] H:=by
 obtain ⟨T,rfl,asc,q1,q2⟩:=h
 have sa:=Znb (c:=32) asc
 have sn:=Zru (c:=32) asc
 have q2':¬ Xm T=true->∀ H',Same H H'->E (.ref (clsA mg "NoText")) none H':=λ z=>q2 (by simpa using z)
 unfold Zdg
 refine Zu (Z0 (Jk (Vi (K1 (Zd rfl ⟨rfl,Zb (w_c (Zh ⟨T,32,rfl,by rw [U3]; rfl,asc.len,λ L hL=>⟨L,rfl,.inl ⟨⟨_,SqL.of Zr⟩,λ D hD=>?_⟩⟩⟩))⟩)))))
 have s1:=Same.laid (o:=.lst ((Txt.split T ⟨#[32]⟩).map V.str)) hL
 have e1:=Zr (H:=H) (a:=L) (o:=.lst ((Txt.split T ⟨#[32]⟩).map V.str))
 generalize upd H L _=H1 at s1 e1 hD ⊢
 replace e1:H1 L=some (.lst ((Ql T).map V.str)):=e1
 replace sn:(Ql T).length<=901:=sn
 refine Uz (K:=K) (a:=L) (xs:=(Ql T).map V.str) (σr:=[]) (.inr ⟨rfl,e1⟩) D (λ i v H=>∃ t w,v=.ref t/\(Ql T)[i]?=some w/\Q0 w=true/\H t=some (.tup [.int (valN (prtA w):Nat),.int (valN (prtB w):Nat)])) (λ _ _ _ _ tu z=>by obtain ⟨t,w,a,b,c,d⟩:=z; exact ⟨t,w,a,b,c,tu _ _ d⟩) (by rw [List.length_map]; omega) hD ⟨none,rfl⟩ (λ j x H2 R hx s2 kk=>?_) λ ys H2 hy hall s2 h2=>Zw ?_
 · rw [List.getElem?_map] at hx
   obtain ⟨w,hw,rfl⟩:=Option.map_eq_some_iff.mp hx
   have mw:=List.mem_of_getElem? hw
   refine Z5 (Zb (Zd rfl (Zh ⟨_,rfl,w,rfl,sa w mw,λ good t H' s' ht=>kk _ _ s' ⟨t,w,rfl,hw,good,ht⟩,λ bad H' s'=>q2' (λ g=>?_) _ ((s1.trans s2).trans s')⟩)))
   rw [((Zqy.mp g).1 w mw).1] at bad
   cases bad
 rw [List.length_map] at hy
 have s12:=s1.trans s2
 have wall:(Ql T).all Q0=true:=List.all_eq_true.mpr λ w hw=>by
  obtain ⟨i,hi⟩:=List.getElem?_of_mem hw
  have il:=(List.getElem?_eq_some_iff.mp hi).1
  obtain ⟨t,w',_,hw',good,_⟩:=hall i (ys[i]'(by omega)) (List.getElem?_eq_getElem (by omega))
  rw [hi] at hw'
  cases hw'
  exact good
 try dsimp only
 refine Zu (Z0 (Zcu (Zb (Ye (Zb (Jk (Vi (Zd rfl ⟨D,rfl,.inl ⟨⟨_,SqL.of h2⟩,λ D1 hD1=>?_⟩⟩))))))))
 refine Uz (K:=K) (a:=D) (xs:=ys) (σr:=[]) (.inr ⟨rfl,h2⟩) D1 (λ i v _=>∃ w,(Ql T)[i]?=some w/\v=.int (valN (prtB w):Nat)) (λ _ _ _ _ _ z=>z) (by omega) hD1 ⟨none,rfl⟩ (λ j x H3 R hx s3 kk=>?_) λ zs H3 hz hall1 s3 h3=>?_
 · obtain ⟨t,w,rfl,hw,wok,ht⟩:=hall j x hx
   exact Zk (Zd rfl (w_c (Xx (v:=.int (valN (prtB w):Nat)) (SqT.of (s3 _ _ ht)) rfl (kk _ _ (Same.refl _) ⟨w,hw,rfl⟩))))
 have ez:=Zm5 (f:=λ w=>((valN (prtB w):Nat):Int)) (hz.trans hy) hall1
 rw [ez] at h3
 replace h3:H3 D1=some (.lst ((Xn T).1.map V.int)):=h3
 refine Zh (Zgp (SqL.of h3) λ t1 ht1=>?_)
 have s3':=s3.laidT (o:=.tup ((Xn T).1.map V.int)) ht1
 have g1:=Zr (H:=H3) (a:=t1) (o:=.tup ((Xn T).1.map V.int))
 generalize upd H3 t1 _=H4 at s3' g1 ⊢
 clear h3 s3 ht1 hall1 ez hz zs
 have s4:=s3'
 refine Zb (Ye (Zb (Jk (Vi (Zd rfl ⟨D,rfl,.inl ⟨⟨_,SqL.of (s4 _ _ h2)⟩,λ D2 hD2=>?_⟩⟩)))))
 refine Uz (K:=K) (a:=D) (xs:=ys) (σr:=[]) (.inr ⟨rfl,s4 _ _ h2⟩) D2 (λ i v _=>∃ w,(Ql T)[i]?=some w/\v=.int (valN (prtA w):Nat)) (λ _ _ _ _ _ z=>z) (by omega) hD2 ⟨none,rfl⟩ (λ j x H5 R hx s5 kk=>?_) λ zs H5 hz hall1 s5 h5=>?_
 · obtain ⟨t,w,rfl,hw,wok,ht⟩:=hall j x hx
   exact Zk (Zd rfl (w_c (Xx (v:=.int (valN (prtA w):Nat)) (SqT.of (s5 _ _ (s4 _ _ ht))) rfl (kk _ _ (Same.refl _) ⟨w,hw,rfl⟩))))
 have ez:=Zm5 (f:=λ w=>((valN (prtA w):Nat):Int)) (hz.trans hy) hall1
 rw [ez] at h5
 replace h5:H5 D2=some (.lst ((Xn T).2.map V.int)):=h5
 refine Zh (Zgp (SqL.of h5) λ t2 ht2=>Zh ⟨by show 2<=sizeLine; decide,λ t3 ht3=>Zw ?_⟩)
 have y2:=Same.laid (o:=.tup ((Xn T).2.map V.int)) ht2
 have y3:=Same.laid (o:=.tup [.ref t1,.ref t2]) ht3
 have rp:Rep (upd (upd H5 t2 (.tup ((Xn T).2.map V.int))) t3 (.tup [.ref t1,.ref t2])) (.ref t3) (dayD (Xn T)):=Zh2 (d:=Xn T) Zr (y3 _ _ (y2 _ _ (s5 _ _ g1))) (y3 _ _ Zr)
 have s6:=(((s12.trans s4).trans s5).trans y2).trans y3
 generalize upd (upd H5 t2 _) t3 _=H6 at s6 rp ⊢
 try dsimp only
 have ge:Xm T=Qs (dayD (Xn T)):=by unfold Xm; rw [wall,Bool.true_and]
 refine Zu (Jj (Z5 (Zb (Z5 (Zb (Zd rfl (Zh ⟨_,rfl,_,rp,λ H' s'=>Zh ⟨_,rfl,_,rfl,λ good=>?_,λ bad=>q2 (ge.trans bad) _ (s6.trans s')⟩⟩)))))))
 exact Z4 (Zd rfl (q1 (ge.trans good) _ _ (s6.trans s') (Rep.mono s' _ _ rp)))
theorem Jf {D:List (Str×Addr)} {ty:TE} {S:List (Addr×Sp)} {E:XK} {t:TA} {σ:St} {H:Hp} {Q:VK} (h:ty σ H λ y H1=>∃ k f sp,y=.str k/\Xu D k=some f/\(f,sp)∈S/\t σ H1 λ vs H2=>sp vs H2 Q E):Zgw D ty S E t σ H Q:=h
theorem Z26 {D:List (Str×Addr)} {ty:TE} {σ:St} {H:Hp} {Q:VK} (h:ty σ H λ y H1=>∃ k,y=.str k/\Q (.bl (Xu D k).isSome) H1):Zlv D ty σ H Q:=h
theorem Zo5 {D:List (Str×Addr)} {ty:TE} {σ:St} {H:Hp} {Q:VK} (h:ty σ H λ y H1=>∃ k,y=.str k/\Q (.bl (!(Xu D k).isSome)) H1):Zlu D ty σ H Q:=h
theorem Zvj {K:Fq} {a:V} {H:Hp} {Q:VK} {E:XK} (h:Znc K a H Q E):Zgt K (Rt Q) [some a] H:=by
 obtain ⟨l,ks,rfl,hl,ok,hn,q⟩:=h
 unfold Zgt
 refine Zu (Yv (Xe (Zk (Ye (Zb (Zd rfl (Zh (Ji (SqL.of hl) (w_c (Qm (Xc ?_)))))))))))
 refine iteD (λ e=>Z4 (w_c ?_)) λ e=>Zjo ?_
 rotate_left
 · refine K1 (w_c ⟨rfl,Zb (Zd rfl (Zh ⟨" ",l,ks,rfl,rfl,SqL.of hl,?_,?_⟩))⟩)
   · rw [U3]; exact ok
   · have:ks≠[]:=λ z=>e (by rw [z]; rfl)
     unfold Vg at q
     rw [if_neg this] at q
     rw [U3]; exact q
 · have:ks=[]:=by
    rw [List.length_map] at e
    exact List.length_eq_zero_iff.mp (by omega)
   unfold Vg at q
   rw [if_pos this] at q
   exact q
theorem Zl9 {K:Fq} {mg:Str->Option Value} (M:Md K mg) {a:V} {H:Hp} {Q:VK} {E:XK} (h:Zef K mg a H Q E):Hj K mg E (Rt Q) [some a] H:=by
 obtain ⟨d,kvs,L,ok,q⟩:=h
 unfold Hj
 have l8:=L.len
 exact Z4 (Z5 (Zb (L.meth rfl (by decide) (Zh ⟨_,rfl,d,kvs,L,λ p H1 s1 _ h1=>Zh ⟨_,rfl,p,Z2 kvs,rfl,h1,ok,by rw [List.length_map]; omega,q H1 s1⟩⟩))))
theorem Zl8 {K:Fq} {mg:Str->Option Value} (M:Md K mg) {a:V} {H:Hp} {Q:VK} {E:XK} (h:Qu mg a H Q E):Hi K mg E (Rt Q) [some a,none] H:=by
 obtain ⟨d,L,q⟩:=h
 unfold Hi
 exact Zu (Z0 (L.methD rfl (by decide) (Zh ⟨_,_,rfl,d,L,q⟩)))
theorem Zp0 {K:Fq} {mg:Str->Option Value} (M:Md K mg) {a:V} {H:Hp} {Q:VK} {E:XK} (h:Qu mg a H Q E):Zbf K mg E (Rt Q) [some a,none] H:=by
 obtain ⟨d,L,q⟩:=h
 unfold Zbf
 exact Zu (Z0 (L.meth rfl (by decide) (Zh ⟨_,rfl,d,L,q⟩)))
theorem Zj8 {K:Fq} {mg:Str->Option Value} (M:Md K mg) {a:V} {H:Hp} {Q:VK} {E:XK} (h:Qu mg a H Q E):Vl K mg E (Rt Q) [some a] H:=by
 obtain ⟨d,L,q⟩:=h
 unfold Vl
 exact Z4 (Z5 (Zb (L.meth rfl (by decide) (Zh ⟨_,rfl,d,L,q⟩))))
theorem Zma {K:Fq} {mg:Str->Option Value} (M:Md K mg) {a:V} {H:Hp} {Q:VK} {E:XK} (h:Qu mg a H Q E):Hk K mg E (Rt Q) [some a,none] H:=by
 obtain ⟨d,L,q⟩:=h
 unfold Hk
 exact Zu (Z0 (L.meth rfl (by decide) (Zh ⟨_,rfl,d,L,q⟩)))
theorem Zr1 {K:Fq} {mg:Str->Option Value} (M:Md K mg) {a b:V} {H:Hp} {Q:VK} {E:XK} (h:Zii K mg a b H Q E):Zdf K mg E (Rt Q) [some a,some b] H:=by
 obtain ⟨d,kvs,nm,L,rfl,no,q⟩:=h
 unfold Zdf
 exact Zu (Jj (L.meth rfl (by decide) (Zb (Zd rfl (Zh ⟨_,_,rfl,d,kvs,nm,L,rfl,λ z=>absurd z no,λ _=>q⟩)))))
theorem Zjb (mg:Str->Option Value) (w:Str):(Xu (Uk mg) w).isSome=Zc8 w:=by
 unfold Xu Uk Zc8
 rw [Option.isSome_map,Bool.eq_iff_iff,List.find?_isSome]
 simp
theorem Zuz {D:List (Str×Addr)} {ty:TE} {t:TA} {σ:St} {H:Hp} {Q:VK} (h:ty σ H λ y H1=>∃ k,y=.str k/\(Xu D k).isSome=true/\t σ H1 λ _ _=>False):Ziw D ty t σ H Q:=h
theorem Zn1 {K:Fq} {mg:Str->Option Value} (M:Md K mg) {a b:V} {H:Hp} {Q:VK} {E:XK} (h:Zf8 K mg a b H Q E):Ej K mg E (Rt Q) [some a,some b] H:=by
 obtain ⟨d,kvs,w,L,rfl,h⟩:=h
 unfold Ej
 rcases h with ⟨e,q⟩ | ⟨e,e0,q⟩
 · refine Zu (Yv (Zo6 (Zo5 (Zd rfl ⟨w,rfl,Xc ?_⟩))))
   rw [Zjb,e]
   exact iteT (W4 (Zb (w_c (Zh ⟨by show 1<=sizeLine; decide,q⟩))))
 · subst e0
   refine Zu (Yv (Zo6 (Zo5 (Zd rfl ⟨w,rfl,Xc ?_⟩))))
   rw [Zjb,e]
   refine iteF (Zjo ?_)
   exact Z29 (Wu (Zuz (Zd rfl ⟨w,rfl,(Zjb mg w).trans e,Zb (L.no rfl q)⟩)))
theorem Zn0 {K:Fq} {mg:Str->Option Value} (M:Md K mg) {a b c:V} {H:Hp} {Q:VK} {E:XK} (h:Wj K mg a b c H Q E):Ei K mg E (Rt Q) [some a,some b,some c,none] H:=by
 obtain ⟨d,kvs,n1,n2,L,rfl,rfl,ho,q⟩:=h
 unfold Ei
 exact Zu (Z0 (L.meth rfl (by decide) (Zb (Zd rfl (Zb (Zd rfl (Zh ⟨_,_,_,rfl,d,kvs,n1,n2,L,rfl,rfl,ho,q⟩)))))))
theorem Zr0 {K:Fq} {a:V} {H:Hp} {Q:VK} {E:XK} (h:Zih K a H Q E):Zde K (Rt Q) [some a] H:=by
 obtain ⟨z,rfl,hz,q⟩:=h
 unfold Zde
 refine Zu (Yv (Wu ?_))
 refine K1 (Zd rfl ⟨rfl,Zb (w_c (Zh ⟨z,_,rfl,rfl,?_⟩))⟩)
 cases e:Txt.startswith z ("put ":Str) with
 | true =>
   refine Jh (iteT (Z4 ?_))
   refine K1 (Zd rfl ⟨rfl,Zb (w_c (Zb (w_c (Zh ⟨z,32,rfl,by rw [U3]; rfl,hz,λ p hp=>q p _ (Same.laid hp) ?_⟩))))⟩)
   rw [Zr]
   unfold Yg
   rw [if_pos e]
   rfl
 | false =>
   refine Jh (iteF (Zjo ?_))
   refine K1 (Zd rfl ⟨rfl,Zb (w_c (Zh ⟨z,32,rfl,by rw [U3]; rfl,hz,λ p hp=>q p _ (Same.laid hp) ?_⟩))⟩)
   rw [Zr]
   unfold Yg
   rw [if_neg (by rw [e]; decide)]
   rfl
theorem Zn2 {K:Fq} {mg:Str->Option Value} (M:Md K mg) {a b c:V} {H:Hp} {Q:VK} {E:XK} (h:Zf9 K mg a b c H Q E):Ek K mg E (Rt Q) [some a,some b,some c] H:=by
 obtain ⟨d,kvs,n1,n2,L,rfl,rfl,q1,q2⟩:=h
 unfold Ek
 refine Z4 (Ye (Zb (L.meth rfl (by decide) (Zb (Zd rfl (Zb (Zd rfl (Zh ⟨_,_,_,rfl,d,kvs,n1,n2,L,rfl,rfl,q1,λ i1 i2=>?_⟩))))))))
 obtain ⟨B,n,i,j,LB,e1,e2,q⟩:=q2 i1 i2
 refine ⟨B,n,i,j,LB,e1,e2,λ H' s=>?_⟩
 obtain ⟨m,e,hm,q⟩:=q H' s
 rw [e]
 refine Zh ⟨(m:Int),rfl,?_,q⟩
 rw [Int.natAbs_natCast]
 rcases Nat.eq_zero_or_pos m with rfl | h0
 · decide
 · refine (Nat.log2_lt (by omega)).mpr (Nat.lt_trans hm ?_)
   exact Nat.lt_of_lt_of_le (show (10:Nat) ^ 40<2 ^ 140 by decide) (Nat.pow_le_pow_right (by decide) (by decide))
theorem Zcb {K:Fq} {mg:Str->Option Value} (M:Md K mg) {a b:V} {H:Hp} {Q:VK} {E:XK} (h:Zby K mg a b H Q E):Vm K mg E (Rt Q) [some a,some b] H:=LB.Zcb h
theorem Zmb {K:Fq} {mg:Str->Option Value} (M:Md K mg) {a b c:V} {H:Hp} {Q:VK} {E:XK} (h:Zl6 K mg a b c H Q E):Zh0 K mg E (Rt Q) [some a,some b,some c] H:=LB.Zmb h
theorem Ztx {K:Fq} {mg:Str->Option Value} (M:Md K mg) {a b c:V} {H:Hp} {Q:VK} {E:XK} (h:Zj3 K mg a b c H Q E):Ze9 K mg E (Rt Q) [some a,some b,some c,none] H:=by
 obtain ⟨d,kvs,nm,T,B,L,rfl,rfl,an,aT,R,q1,q2,q3,q4,q5⟩:=h
 unfold Ze9
 refine Zu (Jj (Z5 (Zb (Zd rfl (Zh ⟨_,rfl,nm,rfl,an,λ e1 H1 s1=>?_,q1⟩)))))
 refine Zu (Z0 (Z5 (Zb (Zd rfl (Zh ⟨_,rfl,T,rfl,aT,λ e2 v H2 s2 r2=>Zw ?_,λ e2 H2 s2=>q2 e1 e2 H2 (s1.trans s2)⟩)))))
 try dsimp only
 have s12:=s1.trans s2
 have L2:=L.mono s12
 obtain ⟨p,p1,p2,rfl,hp,h1,h2⟩:=Zey r2
 have eb:(.tuple (B.map dayD++[.tuple [.tuple ((Xn T).1.map .int),.tuple ((Xn T).2.map .int)]]):PyData)=Qd (B++[Xn T]):=by
  unfold Qd; rw [List.map_append]; rfl
 refine Zu (Jj (L2.meth rfl (by decide) (Zb (Zd rfl (Zb (Zk (Zd rfl (w_c (Xx (SqT.of hp) rfl (Zb (Zk (Zd rfl (w_c (Xx (SqT.of hp) rfl (Zh ?_)))))))))))))))
 refine ⟨_,_,_,_,rfl,d,kvs,nm,B.map dayD,.tuple ((Xn T).1.map .int),.tuple ((Xn T).2.map .int),L2,rfl,an,Reps.mono s12 _ _ R,Gh h1 (Reps.ints _),Gh h2 (Reps.ints _),?_,?_,?_,?_⟩
 · intro e; rw [e1] at e; cases e
 · exact λ _ i H3 s3=>q3 e1 e2 i H3 (s12.trans s3)
 · intro _ no e H3 s3
   rw [eb] at e
   exact q4 e1 e2 no e H3 (s12.trans s3)
 · intro _ no e t H3 s3 ht L3
   rw [eb] at e
   have tu:=s3.tu L2.kept
   have qq:=q5 e1 e2 no e (.ref t) H3 ((Same.sb s12).trans s3) (Zh2 ht (tu _ _ h1) (tu _ _ h2)) L3
   exact qq
theorem Zqp {ks:List Str} (nd:ks.Nodup) {i j:Nat} {nm:Str} (h1:ks[i]?=some nm) (h2:ks[j]?=some nm):i=j:=by
 rcases Nat.lt_trichotomy i j with h | h | h
 · exact absurd h1 (Zjg nd h2 i h)
 · exact h
 · exact absurd h2 (Zjg nd h1 j h)
theorem Zmh {K:Fq} {mg:Str->Option Value} (M:Md K mg) {a b c:V} {H:Hp} {Q:VK} {E:XK} (h:Hz K mg a b c H Q E):Hr K mg E (Rt Q) [some a,some b,some c,none,none] H:=by
 obtain ⟨d,kvs,n1,n2,L,rfl,rfl,q1,q2⟩:=h
 unfold Hr
 refine Zu (Z0 (L.meth rfl (by decide) (Zb (Zd rfl (Zh ⟨_,_,rfl,d,kvs,n1,L,rfl,λ i hi H1 s1=>Zw ?_,λ no=>q1 (.inl no) H (Same.refl _)⟩)))))
 try dsimp only
 refine Zu (Z0 ((L.mono s1).meth rfl (by decide) (Zb (Zd rfl (Zh ⟨_,_,rfl,d,kvs,n2,L.mono s1,rfl,λ j hj H2 s2=>Zw ?_,λ no=>q1 (.inr no) H1 s1⟩)))))
 try dsimp only
 have s12:=s1.trans s2
 have L2:=L.mono s12
 obtain ⟨B,n,i',j',LB,ei,ej,q⟩:=q2 (List.mem_of_getElem? hi) (List.mem_of_getElem? hj)
 have ii:i'=i:=Zqp L.nd ei hi
 have jj:j'=j:=Zqp L.nd ej hj
 subst ii
 subst jj
 have hB:B.length=kvs.length:=by
  have:=Reps.length LB.reps
  rw [List.length_map,List.length_map] at this
  exact this.symm
 have li:i'<kvs.length:=by have:=(List.getElem?_eq_some_iff.mp hi).1; rwa [List.length_map] at this
 have lj:j'<kvs.length:=by have:=(List.getElem?_eq_some_iff.mp hj).1; rwa [List.length_map] at this
 refine Z4 (Z5 (Zb (L2.meth rfl (by decide) (Zh ⟨_,rfl,d,kvs,L2,λ z=>?_,λ _ p H3 s3 h3=>?_⟩))))
 · rw [z] at li; exact absurd li (by simp)
 · refine Zb (Zd rfl (Zb (Zd rfl (Zh ⟨_,_,_,rfl,B,B.length,n,_,_,Gh h3 (Reps.mono (s12.trans s3) _ _ LB.reps),?_,rfl,rfl,λ _ _ H4 s4=>?_,λ z=>absurd ⟨?_,?_⟩ z⟩))))
   · exact ⟨LB.n1,LB.n4,by omega,Nat.le_refl _,LB.good⟩
   · exact q H4 ((s12.trans s3).trans s4)
   · exact ⟨by omega,by omega⟩
   · exact ⟨by omega,by omega⟩
theorem Zqa {K:Fq} {mg:Str->Option Value} (M:Md K mg) {a:V} {H:Hp} {Q:VK} {E:XK} (h:Zhd K mg a H Q E):Zbp K mg (Rt Q) [some a] H:=by
 obtain ⟨p,dp,rfl,hp,q⟩:=h
 unfold Zbp
 refine Zu0 (Zu4 (Zh λ x dx hx0 hdx nex=>⟨_,rfl,x,dx,rfl,Zr,λ d hd=>⟨rfl,?_⟩⟩))
 have nd:d≠x:=λ z=>by rw [z,Zr] at hd; cases hd
 have hd2:H d=none:=by
  cases z:H d with
  | none=>rfl
  | some u =>
    rw [Z1 nd,Z1 (λ y=>by rw [y,hdx] at z; cases z),z] at hd
    cases hd
 have s3:Same H (upd (upd (upd (upd H dx (.own x)) x (.ins (clsA mg "Ledger") dx [])) d (.dK [])) x (.ins (clsA mg "Ledger") dx [("kept",.ref d)])):=((((Same.refl H).put hdx).put hx0).put hd2).put hx0
 have L3:Led mg (upd (upd (upd (upd H dx (.own x)) x (.ins (clsA mg "Ledger") dx [])) d (.dK [])) x (.ins (clsA mg "Ledger") dx [("kept",.ref d)])) (.ref x) d []:=⟨⟨x,dx,rfl,Zr⟩,by rw [Z1 nd,Zr]; rfl,List.nodup_nil,by decide⟩
 generalize upd (upd (upd (upd H dx (.own x)) x (.ins (clsA mg "Ledger") dx [])) d (.dK [])) x (.ins (clsA mg "Ledger") dx [("kept",.ref d)])=H3 at s3 L3 ⊢
 have h3:=s3 _ _ hp
 have px:x≠p:=λ z=>by rw [z,hp] at hx0; cases hx0
 have pd:d≠p:=λ z=>by rw [z,hp] at hd2; cases hd2
 refine Zd rfl ⟨p,_,dp,[],rfl,h3,M.o_Desk.cl,M.na_Desk_ledger,by decide,?_⟩
 refine q d _ (λ b o nb hb=>by rw [Z1 nb]; exact s3 b o hb) ⟨p,dp,.ref x,rfl,Zr,?_⟩ hd2
 obtain ⟨⟨y,dy,e,hy⟩,k3,n3,l3⟩:=L3
 cases e
 exact ⟨⟨x,dy,rfl,by rw [Z1 px]; exact hy⟩,by rw [Z1 pd]; exact k3,n3,l3⟩
theorem U5 {k x:Str} {a:Addr} {D:List (Str×Addr)} (h:k=x):Xu ((x,a)::D) k=some a:=by
 unfold Xu; rw [List.find?_cons_of_pos (by simpa using h)]; rfl
theorem Wi {k x:Str} {a:Addr} {D:List (Str×Addr)} (h:¬ k=x):Xu ((x,a)::D) k=Xu D k:=by
 unfold Xu; rw [List.find?_cons_of_neg (by simpa using h)]
def Zrs (w:Str):Bool:=decide (w∈[("days":Str),"taste","cut","leave","hands"])
def oneB (w:Str):Bool:=decide (w∈[("take":Str),"kind"])
def Ze8 (w:Str):Bool:=decide (w∈[("put":Str),"cost","better"])
theorem Zrr (mg:Str->Option Value) (w:Str):(Xu (Ul mg) w).isSome=Zrs w:=by
 unfold Xu Ul Zrs
 rw [Option.isSome_map,Bool.eq_iff_iff,List.find?_isSome]
 simp
theorem Zv1 (mg:Str->Option Value) (w:Str):(Xu (Jo mg) w).isSome=oneB w:=by
 unfold Xu Jo oneB
 rw [Option.isSome_map,Bool.eq_iff_iff,List.find?_isSome]
 simp
theorem Zva (mg:Str->Option Value) (w:Str):(Xu (Jm mg) w).isSome=Ze8 w:=by
 unfold Xu Jm Ze8
 rw [Option.isSome_map,Bool.eq_iff_iff,List.find?_isSome]
 simp
theorem Ztj {K:Fq} {D:List (Str×Addr)} {A B:TS} {Dn:Ends} {σ:St} {H:Hp} {l:Addr} {ws:List Str} {w:Str} {n:Nat} (e2:σ[2]?=some (some (.ref l))) (e3:σ[3]?=some (some (.str w))) (hl:H l=some (.lst (ws.map V.str))) (hn:ws.length<=1002)
 (hy:ws.length=n->(Xu D w).isSome=true->A { Dn with nx:=B Dn } σ H) (hno:¬ (ws.length=n/\(Xu D w).isSome=true)->B Dn σ H) :
 Zv (Y0 (Zlx (Y4 (tOp (rEqU K) (tCB (rLenU K) (Za (Zc 2) Zg)) (tC (.int (n:Nat))))) (tB (Zlv D (Zc 3)))) A Yl) B Dn σ H:=by
 refine Zu (Yv (Z3b (Xe (Zk (Ye (Zb (Zd e2 (Zh (Ji (SqL.of hl) (w_c (Qm (Xc ?_))))))))))))
 rw [List.length_map]
 refine iteD (λ h1=>Zo6 (Z26 (Zd e3 ⟨w,rfl,Xc ?_⟩))) λ h1=>iteF (Ys (hno λ z=>h1 (by omega)))
 cases e:(Xu D w).isSome with
 | true=>exact iteT (hy (by omega) e)
 | false=>exact iteF (Ys (hno λ z=>by rw [e] at z; cases z.2))
theorem Zux {z:Str} (hz:z.length<=1000):(Yg z).length<=1002:=by
 unfold Yg
 split
 · exact Nat.le_trans (Zjx z 32 2) (by omega)
 · exact Nat.le_trans (Zna z 32) (by omega)
theorem Dsk.mono {mg:Str->Option Value} {H H':Hp} {v:V} {d:Addr} {kvs:Kvs} (s:Same H H') (L:Dsk mg H v d kvs):Dsk mg H' v d kvs:=by
 obtain ⟨a,dx,l,e,h,L⟩:=L
 exact ⟨a,dx,l,e,s _ _ h,L.mono s⟩
theorem Zr6 {K:Fq} {mg:Str->Option Value} (M:Md K mg) {a b:V} {H:Hp} {Q:VK} {E:XK} (h:Zin K mg a b H Q E):Zdk K mg E (Rt Q) [some a,some b,none,none] H:=by
 obtain ⟨d,kvs,B,z,⟨a0,dx,lv,rfl,ha,L⟩,rfl,hz,R,h⟩:=h
 unfold Zdk
 refine Zu (Z0 (Z5 (Zb (Zd rfl (Zh ⟨_,rfl,z,rfl,hz,λ l H1 s1 hl=>Zw ?_⟩)))))
 have hn:=Zux hz
 generalize Yg z=ws at h hl hn
 have ne:ws≠[]:=by
  rcases h with ⟨r,h,_⟩ | ⟨h,_⟩ | ⟨_,_,_,_,_,h,_⟩ | ⟨_,_,h,_⟩
  · rcases h with ⟨h,_⟩ | ⟨_,h,_⟩ | ⟨h,_⟩ | ⟨_,h,_⟩ | ⟨_,h,_⟩ | ⟨_,_,h,_⟩ | ⟨_,_,h,_⟩
    · exact h
    · rw [h]; simp
    · rcases h with h | h | h | h <;> (rw [h]; simp)
    · rw [h]; simp
    · rw [h]; simp
    · rcases h with h | h <;> (rw [h]; simp)
    · rw [h]; simp
  · rw [h]; simp
  · rw [h]; simp
  · rw [h]; simp
 obtain ⟨w,r,rfl⟩:=List.exists_cons_of_ne_nil ne
 refine Zu (Z0 (Zk (Zd rfl (w_c (Yo (v:=.str w) (SqL.of hl) (Xv (by decide) rfl) (Zw ?_))))))
 try dsimp only
 have ha1:=s1 _ _ ha
 have L1:=L.mono s1
 have R1:=Reps.mono s1 _ _ R
 have no:(rowB (w::r)=false->∀ H',Same H H'->E (.ref (clsA mg "NoRow")) none H')->rowB (w::r)=false->(Wm E (.ref (clsA mg "NoRow")) (Za (tC (.str "there is no such row")) Zg)) (Rt Q) [some (.ref a0),some (.str z),some (.ref l),some (.str w)] H1:=λ q e=>W4 (Zb (w_c (Zh ⟨by show 1<=sizeLine; decide,q e H1 s1⟩)))
 have rowF:rowB (w::r)=((decide ((w::r).length=1) && Zrs w) || (decide ((w::r).length=2) && oneB w) || (decide ((w::r).length=3) && Ze8 w)):=rfl
 have fld:∀ {Q':VK},Q' lv H1->Kg K (Zc 0) "ledger" [some (.ref a0),some (.str z),some (.ref l),some (.str w)] H1 Q':=λ q=>Zy3 (Zd rfl ⟨a0,_,dx,_,lv,rfl,ha1,M.o_Desk.cl,M.na_Desk_ledger,rfl,q⟩)
 refine Ztj rfl rfl hl hn (λ e1 i1=>Z4 ?_) λ n1=>?_
 · rw [Zrr] at i1
   rcases h with ⟨rk,h,q⟩ | ⟨h,ok,q⟩ | ⟨_,_,_,_,_,h,_⟩ | ⟨_,_,h,_⟩
   · rcases h with ⟨_,h,_⟩ | ⟨_,h,_⟩ | ⟨h,e0,rfl⟩ | ⟨_,h,_⟩ | ⟨_,h,_⟩ | ⟨_,_,h,_⟩ | ⟨_,_,h,_⟩
     · rw [rowF,e1,i1] at h; simp at h
     · rw [h] at e1; simp at e1
     · subst e0
       rcases h with h | h | h | h
       · cases h
         exact Jf (Zd rfl ⟨_,_,_,rfl,(Wi (by decide +kernel)).trans (U5 rfl),.tail _ (.head _),Zb (fld (Zh ⟨_,rfl,d,L1,q H1 s1⟩))⟩)
       · cases h
         exact Jf (Zd rfl ⟨_,_,_,rfl,(Wi (by decide +kernel)).trans ((Wi (by decide +kernel)).trans (U5 rfl)),.tail _ (.tail _ (.head _)),Zb (fld (Zh ⟨_,rfl,d,L1,q H1 s1⟩))⟩)
       · cases h
         exact Jf (Zd rfl ⟨_,_,_,rfl,(Wi (by decide +kernel)).trans ((Wi (by decide +kernel)).trans ((Wi (by decide +kernel)).trans (U5 rfl))),.tail _ (.tail _ (.tail _ (.head _))),Zb (fld (Zh ⟨_,rfl,d,L1,q H1 s1⟩))⟩)
       · cases h
         exact Jf (Zd rfl ⟨_,_,_,rfl,(Wi (by decide +kernel)).trans ((Wi (by decide +kernel)).trans ((Wi (by decide +kernel)).trans ((Wi (by decide +kernel)).trans (U5 rfl)))),.tail _ (.tail _ (.tail _ (.tail _ (.head _)))),Zb (fld (Zh ⟨_,rfl,d,L1,q H1 s1⟩))⟩)
     · rw [h] at e1; simp at e1
     · rw [h] at e1; simp at e1
     · rcases h with h | h <;> (rw [h] at e1; simp at e1)
     · rw [h] at e1; simp at e1
   · cases h
     exact Jf (Zd rfl ⟨_,_,_,rfl,U5 rfl,.head _,Zb (fld (Zh ⟨_,rfl,d,kvs,L1,ok,λ H' s=>q H' (s1.trans s)⟩))⟩)
   · rw [h] at e1; simp at e1
   · rw [h] at e1; simp at e1
 refine Ztj rfl rfl hl hn (λ e2 i2=>Z4 ?_) λ n2=>?_
 · rw [Zv1] at i2
   rcases h with ⟨rk,h,q⟩ | ⟨h,ok,q⟩ | ⟨_,_,_,_,_,h,_⟩ | ⟨_,_,h,_⟩
   · rcases h with ⟨_,h,_⟩ | ⟨nm,h,kf,rfl⟩ | ⟨h,_⟩ | ⟨nm,h,kt,e0,rfl⟩ | ⟨nm,h,nn,rfl⟩ | ⟨_,_,h,_⟩ | ⟨_,_,h,_⟩
     · rw [rowF,e2,i2] at h; simp at h
     · cases h
       exact Jf (Zd rfl ⟨_,_,_,rfl,(Wi (by decide +kernel)).trans (U5 rfl),.tail _ (.head _),Zb (fld (Zb (Zk (Zd rfl (w_c (Yo (v:=.str nm) (SqL.of hl) (Xv (by decide) rfl) (Zh ⟨_,_,rfl,d,kvs,nm,L1,rfl,.inl ⟨kf,q H1 s1⟩⟩)))))))⟩)
     · rcases h with h | h | h | h <;> (rw [h] at e2; simp at e2)
     · cases h
       exact Jf (Zd rfl ⟨_,_,_,rfl,(Wi (by decide +kernel)).trans (U5 rfl),.tail _ (.head _),Zb (fld (Zb (Zk (Zd rfl (w_c (Yo (v:=.str nm) (SqL.of hl) (Xv (by decide) rfl) (Zh ⟨_,_,rfl,d,kvs,nm,L1,rfl,.inr ⟨kt,e0,q H1 s1⟩⟩)))))))⟩)
     · cases h
       exact Jf (Zd rfl ⟨_,_,_,rfl,U5 rfl,.head _,Zb (fld (Zb (Zk (Zd rfl (w_c (Yo (v:=.str nm) (SqL.of hl) (Xv (by decide) rfl) (Zh ⟨_,_,rfl,d,kvs,nm,L1,rfl,nn,q H1 s1⟩)))))))⟩)
     · rcases h with h | h <;> (rw [h] at e2; simp at e2)
     · rw [h] at e2; simp at e2
   · rw [h] at e2; simp at e2
   · rw [h] at e2; simp at e2
   · rw [h] at e2; simp at e2
 refine Ztj rfl rfl hl hn (λ e3 i3=>Z4 ?_) λ n3=>?_
 · rw [Zva] at i3
   rcases h with ⟨rk,h,q⟩ | ⟨h,ok,q⟩ | ⟨n1',n2',n,i,j,h,hi,hj,gb,_,_,q⟩ | ⟨nm,T,h,an,aT,en,et,nk,eb,q⟩
   · rcases h with ⟨_,h,_⟩ | ⟨nm,h,_⟩ | ⟨h,_⟩ | ⟨nm,h,_⟩ | ⟨nm,h,_⟩ | ⟨m1,m2,h,ho,rfl⟩ | ⟨nm,T,h,an,aT,hp⟩
     · rw [rowF,e3,i3] at h; simp at h
     · rw [h] at e3; simp at e3
     · rcases h with h | h | h | h <;> (rw [h] at e3; simp at e3)
     · rw [h] at e3; simp at e3
     · rw [h] at e3; simp at e3
     · rcases h with h | h
       · cases h
         refine Jf (Zd rfl ⟨_,_,_,rfl,(Wi (by decide +kernel)).trans (U5 rfl),.tail _ (.head _),Zb (fld (Zb (Zk (Zd rfl (w_c (Yo (v:=.str m1) (SqL.of hl) (Xv (by decide) rfl) (Zb (Zk (Zd rfl (w_c (Yo (v:=.str m2) (SqL.of hl) (Xv (by decide) rfl) (Zh ?_))))))))))))⟩)
         exact ⟨_,_,_,rfl,d,kvs,m1,m2,L1,rfl,rfl,λ _ H' s=>q H' (s1.trans s),λ y1 y2=>by rcases ho with ho | ho; exact absurd y1 ho; exact absurd y2 ho⟩
       · cases h
         refine Jf (Zd rfl ⟨_,_,_,rfl,(Wi (by decide +kernel)).trans ((Wi (by decide +kernel)).trans (U5 rfl)),.tail _ (.tail _ (.head _)),Zb (fld (Zb (Zk (Zd rfl (w_c (Yo (v:=.str m1) (SqL.of hl) (Xv (by decide) rfl) (Zb (Zk (Zd rfl (w_c (Yo (v:=.str m2) (SqL.of hl) (Xv (by decide) rfl) (Zh ?_))))))))))))⟩)
         exact ⟨_,_,_,rfl,d,kvs,m1,m2,L1,rfl,rfl,ho,λ H' s=>q H' (s1.trans s)⟩
     · cases h
       refine Jf (Zd rfl ⟨_,_,_,rfl,U5 rfl,.head _,Zb (fld (Zb (Zk (Zd rfl (w_c (Yo (v:=.str nm) (SqL.of hl) (Xv (by decide) rfl) (Zb (Zk (Zd rfl (w_c (Yo (v:=.str T) (SqL.of hl) (Xv (by decide) rfl) (Zh ?_))))))))))))⟩)
       refine ⟨_,_,_,rfl,d,kvs,nm,T,B,L1,rfl,rfl,an,aT,R1,?_,?_,?_,?_,?_⟩
       · intro x1 H' s
         rcases hp with ⟨y1,rfl⟩ | ⟨y1,_⟩ | ⟨y1,_⟩ | ⟨y1,_⟩
         · exact q H' (s1.trans s)
         all_goals (rw [x1] at y1; cases y1)
       · intro x1 x2 H' s
         rcases hp with ⟨y1,_⟩ | ⟨y1,y2,rfl⟩ | ⟨y1,y2,_⟩ | ⟨y1,y2,_⟩
         · rw [x1] at y1; cases y1
         · exact q H' (s1.trans s)
         all_goals (rw [x2] at y2; cases y2)
       · intro x1 x2 x3 H' s
         rcases hp with ⟨y1,_⟩ | ⟨y1,y2,_⟩ | ⟨y1,y2,y3,rfl⟩ | ⟨y1,y2,y3,_⟩
         · rw [x1] at y1; cases y1
         · rw [x2] at y2; cases y2
         · exact q H' (s1.trans s)
         · exact absurd x3 y3
       · intro x1 x2 x3 x4 H' s
         rcases hp with ⟨y1,_⟩ | ⟨y1,y2,_⟩ | ⟨y1,y2,y3,_⟩ | ⟨y1,y2,y3,y4,rfl⟩
         · rw [x1] at y1; cases y1
         · rw [x2] at y2; cases y2
         · exact absurd y3 x3
         · exact q H' (s1.trans s)
       · intro x1 x2 x3 x4
         rcases hp with ⟨y1,_⟩ | ⟨y1,y2,_⟩ | ⟨y1,y2,y3,_⟩ | ⟨y1,y2,y3,y4,_⟩
         · rw [x1] at y1; cases y1
         · rw [x2] at y2; cases y2
         · exact absurd y3 x3
         · rw [x4] at y4; cases y4
   · rw [h] at e3; simp at e3
   · cases h
     refine Jf (Zd rfl ⟨_,_,_,rfl,(Wi (by decide +kernel)).trans (U5 rfl),.tail _ (.head _),Zb (fld (Zb (Zk (Zd rfl (w_c (Yo (v:=.str n1') (SqL.of hl) (Xv (by decide) rfl) (Zb (Zk (Zd rfl (w_c (Yo (v:=.str n2') (SqL.of hl) (Xv (by decide) rfl) (Zh ?_))))))))))))⟩)
     have li:i<kvs.length:=by have:=(List.getElem?_eq_some_iff.mp hi).1; rwa [List.length_map] at this
     have lj:j<kvs.length:=by have:=(List.getElem?_eq_some_iff.mp hj).1; rwa [List.length_map] at this
     have hB:B.length=kvs.length:=by
      have:=Reps.length R
      rw [List.length_map,List.length_map] at this
      exact this.symm
     obtain ⟨c1,c2⟩:=Zs8 gb (i:=i) (j:=j) (by omega) (by omega)
     obtain ⟨m,em⟩:∃ m:Nat,Jd B i j=(m:Int):=⟨(Jd B i j).toNat,by omega⟩
     refine ⟨_,_,_,rfl,d,kvs,n1',n2',L1,rfl,rfl,λ y=>?_,λ _ _=>⟨B,n,i,j,⟨L1,R1,gb.dy,gb.n1,gb.n6⟩,hi,hj,λ H' s=>⟨m,by rw [em],?_,q m H' em (s1.trans s)⟩⟩⟩
     · rcases y with y | y
       · exact absurd (List.mem_of_getElem? hi) y
       · exact absurd (List.mem_of_getElem? hj) y
     · have:m<=6000000000000000000000000000:=by omega
       exact Nat.lt_of_le_of_lt this (by decide)
   · cases h
     refine Jf (Zd rfl ⟨_,_,_,rfl,U5 rfl,.head _,Zb (fld (Zb (Zk (Zd rfl (w_c (Yo (v:=.str nm) (SqL.of hl) (Xv (by decide) rfl) (Zb (Zk (Zd rfl (w_c (Yo (v:=.str T) (SqL.of hl) (Xv (by decide) rfl) (Zh ?_))))))))))))⟩)
     refine ⟨_,_,_,rfl,d,kvs,nm,T,B,L1,rfl,rfl,an,aT,R1,λ y=>?_,λ _ y=>?_,λ _ _ y=>absurd y nk,λ _ _ _ y=>?_,λ _ _ _ _ v H' s rv Lv=>?_⟩
     · rw [en] at y; cases y
     · rw [et] at y; cases y
     · rw [eb] at y; cases y
     · refine q v H' ((Same.sb s1).trans s) rv ⟨a0,dx,lv,rfl,s _ _ (λ y=>?_) ha1,Lv⟩
       rw [y,L1.kept] at ha1
       cases ha1
 refine no (λ e H' s=>?_) ?_
 · rcases h with ⟨rk,h,q⟩ | ⟨h,_⟩ | ⟨_,_,_,_,_,h,_⟩ | ⟨_,_,h,_⟩
   · rcases h with ⟨_,_,rfl⟩ | ⟨_,h,_,rfl⟩ | ⟨h,_⟩ | ⟨_,h,_⟩ | ⟨_,h,_⟩ | ⟨_,_,h,_⟩ | ⟨_,_,h,_⟩
     · exact q H' s
     · exact q H' s
     · rcases h with h | h | h | h <;> (rw [h] at e; exact absurd e (by decide +kernel))
     · cases h; exact absurd e (by rw [rowF]; simp [oneB])
     · cases h; exact absurd e (by rw [rowF]; simp [oneB])
     · rcases h with h | h <;> (cases h; exact absurd e (by rw [rowF]; simp [Ze8]))
     · cases h; exact absurd e (by rw [rowF]; simp [Ze8])
   · rw [h] at e; exact absurd e (by decide +kernel)
   · cases h; exact absurd e (by rw [rowF]; simp [Ze8])
   · cases h; exact absurd e (by rw [rowF]; simp [Ze8])
 · rw [rowF]
   rw [Zrr] at n1
   rw [Zv1] at n2
   rw [Zva] at n3
   rw [Bool.or_eq_false_iff,Bool.or_eq_false_iff]
   refine ⟨⟨?_,?_⟩,?_⟩
   · rw [Bool.and_eq_false_iff,decide_eq_false_iff_not]; by_cases y:(w::r).length=1; exact .inr (Bool.eq_false_iff.mpr λ x=>n1 ⟨y,x⟩); exact .inl y
   · rw [Bool.and_eq_false_iff,decide_eq_false_iff_not]; by_cases y:(w::r).length=2; exact .inr (Bool.eq_false_iff.mpr λ x=>n2 ⟨y,x⟩); exact .inl y
   · rw [Bool.and_eq_false_iff,decide_eq_false_iff_not]; by_cases y:(w::r).length=3; exact .inr (Bool.eq_false_iff.mpr λ x=>n3 ⟨y,x⟩); exact .inl y
theorem Z1j {K:Fq} {tq:St->Hp->VK->XK->Prop} {hs:List (Addr×TS)} {Dn:Ends} {σ:St} {H:Hp} (h:tq σ H (λ _ H2=>Dn.nx σ H2) (λ cls _ H2=>∃ C,cls=.ref C/\PySem.W.excIn K C bmV "ValueError.__new__"=true/\Zoy K C Dn σ H2 hs)):Ztp K tq hs Dn σ H:=h
theorem Z1i {K:Fq} {D:Addr} {i:Nat} {tq:St->Hp->VK->XK->Prop} {ts:Addr->TS} {Dn:Ends} {σ:St} {H:Hp} (h:tq σ H (λ _ H2=>Dn.nx σ H2) (λ cls _ H2=>∃ C,cls=.ref C/\PySem.W.excIn K C bmV "ValueError.__new__"=true/\PySem.W.mroIn K C (.ref D)=some true/\∀ e,H2 e=none->ts e { nx:=λ σ' H'=>Dn.nx (σ'.set i none) H',rt:=Dn.rt,bk:=λ σ' H'=>Dn.bk (σ'.set i none) H',ct:=λ σ' H'=>Dn.ct (σ'.set i none) H' } (σ.set i (some (.ref e))) (upd H2 e (.ext (ExPc e C))))):Zto K D i tq ts Dn σ H:=h
theorem Zy1 {C:Addr} {m:Str} {sp:Sp} {ta:TE} {t:TA} {σ:St} {H:Hp} {Q:VK} {E:XK} (h:ta σ H λ x H1=>∃ a dx fs,x=.ref a/\H1 a=some (.ins C dx fs)/\fs.lookup m=none/\t σ H1 λ vs H2=>sp (x::vs) H2 Q E):Zjs C m sp ta t σ H Q E:=h
theorem Zzv {σ:St} {H:Hp} {Q:VK} {tk tv tk2 tv2:TE} (h:∀ p,H p=none->tk σ (upd H p (.dK [])) λ x H1=>tv σ H1 λ y H2=>tk2 σ H2 λ x2 H3=>tv2 σ H3 λ y2 H4=>H4 p=some (.dK [])/\∃ kvs:List (Key×V),[(x,y),(x2,y2)]=kvs.map (λ kv=>(kV kv.1,kv.2))/\kvs.length<=15/\Q (.ref p) (upd H4 p (.dK (Ef [] kvs)))):Zow [(tk,tv),(tk2,tv2)] σ H Q:=h
def kd5 (b1 b2 b3 b4 b5:Bool):List (Key×V):=[((Sum.inr "row":Key),V.bl b1),((Sum.inr "name":Key),V.bl b2),((Sum.inr "text":Key),V.bl b3),((Sum.inr "twice":Key),V.bl b4),((Sum.inr "book":Key),V.bl b5)]
theorem Zzg:¬ (Sum.inr ("row":Str):Key)=(Sum.inr ("name":Str):Key):=by decide +kernel
theorem Zzf:¬ (Sum.inr ("row":Str):Key)=(Sum.inr ("text":Str):Key):=by decide +kernel
theorem Zze:¬ (Sum.inr ("row":Str):Key)=(Sum.inr ("twice":Str):Key):=by decide +kernel
theorem Zzd:¬ (Sum.inr ("row":Str):Key)=(Sum.inr ("book":Str):Key):=by decide +kernel
theorem Zzc:¬ (Sum.inr ("name":Str):Key)=(Sum.inr ("text":Str):Key):=by decide +kernel
theorem Zzb:¬ (Sum.inr ("name":Str):Key)=(Sum.inr ("twice":Str):Key):=by decide +kernel
theorem Zza:¬ (Sum.inr ("name":Str):Key)=(Sum.inr ("book":Str):Key):=by decide +kernel
theorem Zy9:¬ (Sum.inr ("text":Str):Key)=(Sum.inr ("twice":Str):Key):=by decide +kernel
theorem Zy8:¬ (Sum.inr ("text":Str):Key)=(Sum.inr ("book":Str):Key):=by decide +kernel
theorem Zy7:¬ (Sum.inr ("twice":Str):Key)=(Sum.inr ("book":Str):Key):=by decide +kernel
theorem Z4b (b1 b2:Bool):Ef [] [(Sum.inr "row",V.bl b1),(Sum.inr "name",V.bl b2)]=[((Sum.inr "row":Key),V.bl b1),((Sum.inr "name":Key),V.bl b2)]:=by
 unfold Ef
 rw [List.foldl_cons,List.foldl_cons,List.foldl_nil,Gk _ Zxo,List.nil_append,Gk]
 · rfl
 · exact (Y9 Zzg).trans rfl
theorem Z4a (b1 b2 b3:Bool):putK [((Sum.inr "row":Key),V.bl b1),((Sum.inr "name":Key),V.bl b2)] (Sum.inr "text") (.bl b3)=[((Sum.inr "row":Key),V.bl b1),((Sum.inr "name":Key),V.bl b2),((Sum.inr "text":Key),V.bl b3)]:=by
 rw [Gk]
 · rfl
 · exact (Y9 Zzf).trans ((Y9 Zzc).trans (rfl))
theorem Z39 (b1 b2 b3 b4:Bool):putK [((Sum.inr "row":Key),V.bl b1),((Sum.inr "name":Key),V.bl b2),((Sum.inr "text":Key),V.bl b3)] (Sum.inr "twice") (.bl b4)=[((Sum.inr "row":Key),V.bl b1),((Sum.inr "name":Key),V.bl b2),((Sum.inr "text":Key),V.bl b3),((Sum.inr "twice":Key),V.bl b4)]:=by
 rw [Gk]
 · rfl
 · exact (Y9 Zze).trans ((Y9 Zzb).trans ((Y9 Zy9).trans (rfl)))
theorem Z38 (b1 b2 b3 b4 b5:Bool):putK [((Sum.inr "row":Key),V.bl b1),((Sum.inr "name":Key),V.bl b2),((Sum.inr "text":Key),V.bl b3),((Sum.inr "twice":Key),V.bl b4)] (Sum.inr "book") (.bl b5)=kd5 b1 b2 b3 b4 b5:=by
 rw [Gk]
 · rfl
 · exact (Y9 Zzd).trans ((Y9 Zza).trans ((Y9 Zy8).trans ((Y9 Zy7).trans (rfl))))
theorem Z37 (b1 b2 b3 b4 b5:Bool):valV (kd5 b1 b2 b3 b4 b5) (Sum.inr "row")=some (.bl b1):=Uj rfl
theorem Z36 (b1 b2 b3 b4 b5:Bool):valV (kd5 b1 b2 b3 b4 b5) (Sum.inr "name")=some (.bl b2):=(Y9 Zzg).trans (Uj rfl)
theorem Z35 (b1 b2 b3 b4 b5:Bool):valV (kd5 b1 b2 b3 b4 b5) (Sum.inr "text")=some (.bl b3):=(Y9 Zzf).trans ((Y9 Zzc).trans (Uj rfl))
theorem Z34 (b1 b2 b3 b4 b5:Bool):valV (kd5 b1 b2 b3 b4 b5) (Sum.inr "twice")=some (.bl b4):=(Y9 Zze).trans ((Y9 Zzb).trans ((Y9 Zy9).trans (Uj rfl)))
theorem Z33 (b1 b2 b3 b4 b5:Bool):valV (kd5 b1 b2 b3 b4 b5) (Sum.inr "book")=some (.bl b5):=(Y9 Zzd).trans ((Y9 Zza).trans ((Y9 Zy8).trans ((Y9 Zy7).trans (Uj rfl))))
structure RkF (K:Fq) (mg:Str->Option Value) (r:Rk) (b1 b2 b3 b4 b5:Bool):Prop where
 q:PySem.W.excIn K (r.cls mg) bmV "ValueError.__new__"=true
 st:PySem.W.mroIn K (r.cls mg) (.ref (clsA mg "TasteError"))=some true
 f:ExF K (r.cls mg)
 k1:PySem.W.kitOne K (.ref (r.cls mg)) (.ref (clsA mg "NoRow"))=some b1
 k2:PySem.W.kitOne K (.ref (r.cls mg)) (.ref (clsA mg "NoName"))=some b2
 k3:PySem.W.kitOne K (.ref (r.cls mg)) (.ref (clsA mg "NoText"))=some b3
 k4:PySem.W.kitOne K (.ref (r.cls mg)) (.ref (clsA mg "Twice"))=some b4
 k5:PySem.W.kitOne K (.ref (r.cls mg)) (.ref (clsA mg "NoBook"))=some b5
 kv:PySem.W.kitOne K (.ref (r.cls mg)) (.type "ValueError")=some true
 j:PySem.W.kitAny K (.ref (r.cls mg)) [.ref (clsA mg "NoDay"),.ref (clsA mg "NoTaste")]=some false
 e1:b1=decide (("row":Str)=r.txt)
 e2:b2=decide (("name":Str)=r.txt)
 e3:b3=decide (("text":Str)=r.txt)
 e4:b4=decide (("twice":Str)=r.txt)
 e5:b5=decide (("book":Str)=r.txt)
theorem rkf {K:Fq} {mg:Str->Option Value} (M:Md K mg) (r:Rk):∃ b1 b2 b3 b4 b5,RkF K mg r b1 b2 b3 b4 b5:=by
 cases r
 · exact ⟨_,_,_,_,_,M.x_NoRow.q,M.s_NoRow_TasteError,M.f_NoRow,M.ky_NoRow_NoRow,M.ky_NoRow_NoName,M.ky_NoRow_NoText,M.ky_NoRow_Twice,M.ky_NoRow_NoBook,M.v_NoRow,M.j_NoRow_0,by decide +kernel,by decide +kernel,by decide +kernel,by decide +kernel,by decide +kernel⟩
 · exact ⟨_,_,_,_,_,M.x_NoName.q,M.s_NoName_TasteError,M.f_NoName,M.ky_NoName_NoRow,M.ky_NoName_NoName,M.ky_NoName_NoText,M.ky_NoName_Twice,M.ky_NoName_NoBook,M.v_NoName,M.j_NoName_0,by decide +kernel,by decide +kernel,by decide +kernel,by decide +kernel,by decide +kernel⟩
 · exact ⟨_,_,_,_,_,M.x_NoText.q,M.s_NoText_TasteError,M.f_NoText,M.ky_NoText_NoRow,M.ky_NoText_NoName,M.ky_NoText_NoText,M.ky_NoText_Twice,M.ky_NoText_NoBook,M.v_NoText,M.j_NoText_0,by decide +kernel,by decide +kernel,by decide +kernel,by decide +kernel,by decide +kernel⟩
 · exact ⟨_,_,_,_,_,M.x_Twice.q,M.s_Twice_TasteError,M.f_Twice,M.ky_Twice_NoRow,M.ky_Twice_NoName,M.ky_Twice_NoText,M.ky_Twice_Twice,M.ky_Twice_NoBook,M.v_Twice,M.j_Twice_0,by decide +kernel,by decide +kernel,by decide +kernel,by decide +kernel,by decide +kernel⟩
 · exact ⟨_,_,_,_,_,M.x_NoBook.q,M.s_NoBook_TasteError,M.f_NoBook,M.ky_NoBook_NoRow,M.ky_NoBook_NoName,M.ky_NoBook_NoText,M.ky_NoBook_Twice,M.ky_NoBook_NoBook,M.v_NoBook,M.j_NoBook_0,by decide +kernel,by decide +kernel,by decide +kernel,by decide +kernel,by decide +kernel⟩
theorem Z0w {i:Nat} {x:Str} (h:(["row","name","text","twice","book"]:List Str)[i]?=some x):x="row"\/x="name"\/x="text"\/x="twice"\/x="book":=by
 have:=List.mem_of_getElem? h
 simpa using this
theorem Zka {K:Fq} {mg:Str->Option Value} (M:Md K mg) {a b:V} {H:Hp} {Q:VK} {E:XK} (h:Zc0 K mg a b H Q E):Vo K mg (Rt Q) [some a,some b,none,none,none,none] H:=by
 obtain ⟨d,kvs,B,z,r,D0,rfl,hz,R,W,q⟩:=h
 unfold Vo
 obtain ⟨a0,dx,lv,ea,ha,L⟩:=id D0
 subst ea
 generalize ea:V.ref a0=a at D0 ⊢
 refine Zu (Z0 (w_c (Zw ?_)))
 try dsimp only
 refine Z1l (λ σ' H'=>σ'=[some a,some (.str z),some (.str r.txt),none,none,none]/\Same H H') (λ R' kk=>?_) ?_
 · refine Z1j (Zy1 (Zd rfl ⟨a0,dx,_,ea.symm,ha,rfl,Zb (Zd rfl (Zh ⟨_,_,rfl,d,kvs,B,z,D0,rfl,hz,R,.inl ⟨r,W,λ H1 s1=>⟨_,rfl,?_⟩⟩⟩))⟩))
   cases r
   · exact ⟨M.x_NoRow.q,.inl ⟨M.s_NoRow_NoRow,Z0 (w_c (Zw (kk _ _ ⟨rfl,s1⟩)))⟩⟩
   · exact ⟨M.x_NoName.q,.inr ⟨M.nm_NoName_NoRow,.inl ⟨M.s_NoName_NoName,Z0 (w_c (Zw (kk _ _ ⟨rfl,s1⟩)))⟩⟩⟩
   · exact ⟨M.x_NoText.q,.inr ⟨M.nm_NoText_NoRow,.inr ⟨M.nm_NoText_NoName,.inl ⟨M.s_NoText_NoText,Z0 (w_c (Zw (kk _ _ ⟨rfl,s1⟩)))⟩⟩⟩⟩
   · exact ⟨M.x_Twice.q,.inr ⟨M.nm_Twice_NoRow,.inr ⟨M.nm_Twice_NoName,.inr ⟨M.nm_Twice_NoText,.inl ⟨M.s_Twice_Twice,Z0 (w_c (Zw (kk _ _ ⟨rfl,s1⟩)))⟩⟩⟩⟩⟩
   · exact ⟨M.x_NoBook.q,.inr ⟨M.nm_NoBook_NoRow,.inr ⟨M.nm_NoBook_NoName,.inr ⟨M.nm_NoBook_NoText,.inr ⟨M.nm_NoBook_Twice,.inl ⟨M.s_NoBook_NoBook,Z0 (w_c (Zw (kk _ _ ⟨rfl,s1⟩)))⟩⟩⟩⟩⟩⟩
 rintro σ' H1 ⟨rfl,s1⟩
 obtain ⟨b1,b2,b3,b4,b5,F⟩:=rkf M r
 refine Zu (Z1i (Zy1 (Zd rfl ⟨a0,dx,_,ea.symm,s1 _ _ ha,rfl,Zb (Zd rfl (Zh ⟨_,_,rfl,d,kvs,B,z,D0.mono s1,rfl,hz,Reps.mono s1 _ _ R,.inl ⟨r,W,λ H2 s2=>⟨_,rfl,F.q,F.st,λ e he=>?_⟩⟩⟩))⟩)))
 have s3:=(s1.trans s2).laidT (o:=.ext (ExPc e (r.cls mg))) he
 have e3:=Zr (H:=H2) (a:=e) (o:=.ext (ExPc e (r.cls mg)))
 generalize upd H2 e (.ext (ExPc e (r.cls mg)))=H3 at s3 e3 ⊢
 try dsimp only
 refine Zu (Z0 (Zzv λ p hp=>w_c (Ye (Zb (Zd rfl (Zb (w_c (Zh ⟨e,_,b1,Same.laid hp _ _ e3,F.f,?_,.inr (.inl ⟨_,rfl,F.k1⟩)⟩))))))))
 refine w_c (Ye (Zb (Zd rfl (Zb (w_c (Zh ⟨e,_,b2,Same.laid hp _ _ e3,F.f,?_,.inr (.inl ⟨_,rfl,F.k2⟩)⟩))))))
 refine ⟨Zr,[(Sum.inr "row",.bl b1),(Sum.inr "name",.bl b2)],rfl,by show 2<=15; decide,Zw ?_⟩
 rw [Z4b,Zec]
 have hp0:H p=none:=by
  cases z:H p with
  | none=>rfl
  | some u=>rw [s3 _ _ z] at hp; cases hp
 have nep:e≠p:=λ z=>by rw [z,hp] at e3; cases e3
 try dsimp only
 refine Zu (Zjr (Ye (Zb (Zd rfl (Zb (w_c (Zh ⟨e,_,b3,by rw [Z1 nep]; exact e3,F.f,?_,.inr (.inl ⟨_,rfl,F.k3⟩)⟩)))))))
 refine Zd rfl (w_c ⟨p,_,rfl,DPut.k (k:=Sum.inr "text") Zr (by show 2<sizeLine; decide),?_⟩)
 rw [Z4a,Zec]
 try dsimp only
 refine Zu (Zjr (Ye (Zb (Zd rfl (Zb (w_c (Zh ⟨e,_,b4,by rw [Z1 nep]; exact e3,F.f,?_,.inr (.inl ⟨_,rfl,F.k4⟩)⟩)))))))
 refine Zd rfl (w_c ⟨p,_,rfl,DPut.k (k:=Sum.inr "twice") Zr (by show 3<sizeLine; decide),?_⟩)
 rw [Z39,Zec]
 try dsimp only
 refine Zu (Zjr (Ye (Zb (Zd rfl (Zb (w_c (Zh ⟨e,_,b5,by rw [Z1 nep]; exact e3,F.f,?_,.inr (.inl ⟨_,rfl,F.k5⟩)⟩)))))))
 refine Zd rfl (w_c ⟨p,_,rfl,DPut.k (k:=Sum.inr "book") Zr (by show 4<sizeLine; decide),?_⟩)
 rw [Z38,Zec]
 have s5:Same H (upd H3 p (.dK (kd5 b1 b2 b3 b4 b5))):=s3.put hp0
 have e5:upd H3 p (.dK (kd5 b1 b2 b3 b4 b5)) e=some (.ext (ExPc e (r.cls mg))):=by rw [Z1 nep]; exact e3
 have d5:=Zr (H:=H3) (a:=p) (o:=.dK (kd5 b1 b2 b3 b4 b5))
 generalize upd H3 p (.dK (kd5 b1 b2 b3 b4 b5))=H5 at s5 e5 d5 ⊢
 try dsimp only
 refine Zu (Yv (Zo8 (w_not (Wu (Ye (Zb (Zd rfl (Zb (w_c (Zh ⟨e,_,true,e5,F.f,Jh (iteF ?_),.inl ⟨"ValueError",rfl,F.kv⟩⟩))))))))))
 refine Wu (Ye (Zb (Zd rfl (Zb (Zcu (Zb (w_c (Zb (w_c (Zh ⟨by show 2<=sizeLine; decide,λ tp htp=>Zh ?_⟩))))))))))
 have s6:=s5.laidT (o:=.tup [.ref (clsA mg "NoDay"),.ref (clsA mg "NoTaste")]) htp
 have e6:=Same.laid (o:=.tup [.ref (clsA mg "NoDay"),.ref (clsA mg "NoTaste")]) htp _ _ e5
 have d6:=Same.laid (o:=.tup [.ref (clsA mg "NoDay"),.ref (clsA mg "NoTaste")]) htp _ _ d5
 refine ⟨e,_,false,e6,F.f,Jh (iteF (Ys ?_)),.inr (.inr ⟨tp,[clsA mg "NoDay",clsA mg "NoTaste"],rfl,Zr,F.j⟩)⟩
 generalize upd H5 tp (.tup [.ref (clsA mg "NoDay"),.ref (clsA mg "NoTaste")])=H6 at s6 e6 d6 ⊢
 try dsimp only
 refine Zu (Z1n (d:=p) (kvs:=kd5 b1 b2 b3 b4 b5) (ks:=["row","name","text","twice","book"]) rfl d6 rfl (λ o i σ' H'=>H'=upd H6 p (.frz o (.dK (kd5 b1 b2 b3 b4 b5)))/\∃ r5,σ'=[some a,some (.str z),some (.str r.txt),some (.ref e),some (.ref p),r5]) (λ o=>⟨rfl,_,rfl⟩) (λ o i σ' H' z=>?_) (λ o i x σ' H' hx z=>?_) λ o σ' H' z=>?_)
 · obtain ⟨rfl,_⟩:=z
   exact ⟨Zr,_,by rw [Z1 nep]; exact e6⟩
 · obtain ⟨rfl,r5,rfl⟩:=z
   have fin:∀ bb,valV (kd5 b1 b2 b3 b4 b5) (Sum.inr x)=some (.bl bb)->bb=decide (x=r.txt)->Zt 5 (.str x) [some a,some (.str z),some (.str r.txt),some (.ref e),some (.ref p),r5] (upd H6 p (.frz o (.dK (kd5 b1 b2 b3 b4 b5)))) λ σ2 H2=>Y0 (Y4 (tOp (rNeU K) (Zju (Zc 4) (Zc 5)) (tOp (rEqU K) (Zc 5) (Zc 2)))) (Zz (tC (.str "other"))) Yl { (Ends.held { nx:=λ σ' H'=>(Zz (Zc 2)) { nx:=λ σ' H'=>(Zz (tC (.str ""))) (Rt Q) (σ'.set 3 none) H',rt:=Q,bk:=λ σ' H'=>(Rt Q).bk (σ'.set 3 none) H',ct:=λ σ' H'=>(Rt Q).ct (σ'.set 3 none) H' } σ' H',rt:=Q,bk:=λ σ' H'=>(Rt Q).bk (σ'.set 3 none) H',ct:=λ σ' H'=>(Rt Q).ct (σ'.set 3 none) H' } p o (kd5 b1 b2 b3 b4 b5)) with nx:=λ σ' H'=>H'=upd H6 p (.frz o (.dK (kd5 b1 b2 b3 b4 b5)))/\∃ r5,σ'=[some a,some (.str z),some (.str r.txt),some (.ref e),some (.ref p),r5],ct:=λ σ' H'=>H'=upd H6 p (.frz o (.dK (kd5 b1 b2 b3 b4 b5)))/\∃ r5,σ'=[some a,some (.str z),some (.str r.txt),some (.ref e),some (.ref p),r5],bk:=(Ends.held { nx:=λ σ' H'=>(Zz (Zc 2)) { nx:=λ σ' H'=>(Zz (tC (.str ""))) (Rt Q) (σ'.set 3 none) H',rt:=Q,bk:=λ σ' H'=>(Rt Q).bk (σ'.set 3 none) H',ct:=λ σ' H'=>(Rt Q).ct (σ'.set 3 none) H' } σ' H',rt:=Q,bk:=λ σ' H'=>(Rt Q).bk (σ'.set 3 none) H',ct:=λ σ' H'=>(Rt Q).ct (σ'.set 3 none) H' } p o (kd5 b1 b2 b3 b4 b5)).nx } σ2 H2:=λ bb hv hb=>Zw (Yv (Xe (Zk (Z1p (Zd rfl (Zd rfl ⟨p,.bl bb,rfl,hv ▸ DGet.f (k:=Sum.inr x) Zr,Zk (Zd rfl (Zd rfl (Zhx (Z28 (Xc (Zf0 hb (Ys ⟨rfl,_,rfl⟩)))))))⟩))))))
   rcases Z0w hx with rfl | rfl | rfl | rfl | rfl
   · exact fin _ (Z37 b1 b2 b3 b4 b5) F.e1
   · exact fin _ (Z36 b1 b2 b3 b4 b5) F.e2
   · exact fin _ (Z35 b1 b2 b3 b4 b5) F.e3
   · exact fin _ (Z34 b1 b2 b3 b4 b5) F.e4
   · exact fin _ (Z33 b1 b2 b3 b4 b5) F.e5
 · obtain ⟨rfl,r5,rfl⟩:=z
   exact Z4 (Zd rfl (q _ ((s6.put hp0).put hp0)))
def Zwa (ws:List Str):Bool:=match ws with
 | [k,w]=>decide (k=("kind":Str)) && !Zc8 w
 | _=>false
def Zhk (z:Str):Bool:=(!(Yg z).isEmpty && !rowB (Yg z)) || Zwa (Yg z)
theorem Zpz {z:Str} (h:Zhk z=true) (kvs:Kvs) (B:List (List Int×List Int)):RefW kvs B (Yg z) .row:=by
 unfold Zhk at h
 generalize Yg z=ws at h ⊢
 rcases Bool.or_eq_true_iff.mp h with h | h
 · rw [Bool.and_eq_true] at h
   refine .inl ⟨λ y=>?_,by simpa using h.2,rfl⟩
   rw [y] at h
   exact absurd h.1 (by decide)
 · unfold Zwa at h
   split at h
   · rename_i k w _
     rw [Bool.and_eq_true] at h
     exact .inr (.inl ⟨w,by rw [of_decide_eq_true h.1],by simpa using h.2,rfl⟩)
   · cases h
def TxE (P:Str->Prop) (te:TE) (σ:St) (H:Hp):Prop:=∀ R:VK,(∀ w H1,Same H H1->P w->R (.str w) H1)->te σ H R
def TxL (P:Str->Prop) (n:Nat) (t:TA) (σ:St) (H:Hp):Prop:=∀ R:List V->Hp->Prop,(∀ (ws:List Str) (H1:Hp),Same H H1->(∀ w∈ws,P w)->ws.length=n->R (ws.map V.str) H1)->t σ H R
theorem Wy {P:Str->Prop} {σ:St} {H:Hp}:TxL P 0 Zg σ H:=λ R k=>Zh (k [] H (Same.refl _) (λ x hx=>nomatch hx) rfl)
theorem Y6 {P:Str->Prop} {n:Nat} {te:TE} {t:TA} {σ:St} {H:Hp} (he:TxE P te σ H) (ht:∀ H1,Same H H1->TxL P n t σ H1):TxL P (n+1) (Za te t) σ H :=
 λ R k=>Zb (he _ λ w H1 s1 p1=>ht H1 s1 _ λ ws H2 s2 p2 hl=>k (w::ws) H2 (s1.trans s2) (λ x hx=>by rcases List.mem_cons.mp hx with rfl | hx; exact p1; exact p2 x hx) (by rw [List.length_cons,hl]))
theorem Ze7 {P:Str->Prop} {w:Str} {σ:St} {H:Hp} (h:P w):TxE P (tC (.str w)) σ H:=λ R k=>w_c (k w H (Same.refl _) h)
theorem Zu8 {K:Fq} {H:Hp} {Q:VK} {a b:Addr} {ws vs:List Str} (h1:H a=some (.lst (ws.map V.str))) (h2:H b=some (.lst (vs.map V.str))) (hz:ws.length+vs.length<=1000) (k:∀ c H',Same H H'->H' c=some (.lst (List.map V.str (ws++vs)))->Q (.ref c) H'):rAddU K (.ref a) (.ref b) H Q:=by
 refine .inr (.inr (.inr ⟨a,b,_,_,rfl,rfl,h1,h2,?_,λ p hp=>?_⟩))
 · rw [List.length_map,List.length_map]
   exact Nat.le_trans hz (by decide)
 · rw [← List.map_append]
   exact k p _ (Same.laid hp) Zr
theorem Zgr {P:Str->Prop} {n:Nat} {t:TA} {σ:St} {H:Hp} {Q:VK} (h:TxL P n t σ H) (hn:n<=500) (k:∀ p (ws:List Str) (H1:Hp),Same H H1->H1 p=some (.lst (ws.map V.str))->(∀ w∈ws,P w)->ws.length=n->Q (.ref p) H1):Xi t σ H Q :=
 Jz (h _ λ ws H1 s1 p1 l1=>⟨by rw [List.length_map,l1]; exact Nat.le_trans hn (by decide),λ p hp=>k p ws _ (s1.trans (Same.laid hp)) Zr p1 l1⟩)
theorem Zbe {K:Fq} {P:Str->Prop} {n m i:Nat} {t:TA} {σ:St} {H:Hp} {Q:VK} {a:Addr} {ws:List Str} (e:σ[i]?=some (some (.ref a))) (ha:H a=some (.lst (ws.map V.str))) (hp:∀ w∈ws,P w) (hl:ws.length=m) (h:TxL P n t σ H) (hn:n<=500) (hm:m<=500)
 (k:∀ p (ws:List Str) (H1:Hp),Same H H1->H1 p=some (.lst (ws.map V.str))->(∀ w∈ws,P w)->ws.length=m+n->Q (.ref p) H1):tOp (rAddU K) (Zc i) (Xi t) σ H Q :=
 Zk (Zd e (Zgr h hn λ p vs H1 s1 h1 p1 l1=>Zu8 (s1 _ _ ha) h1 (by omega) λ c H2 s2 h2=>k c _ H2 (s1.trans s2) h2 (λ w hw=>by rcases List.mem_append.mp hw with hw | hw; exact hp w hw; exact p1 w hw) (by rw [List.length_append,hl,l1])))
theorem Zkp {ws:List Str} {n:Nat} {c:Int} (hl:ws.length=n) (h0:0<n):∃ w∈ws,atI (ws.map V.str) (c % (n:Int))=some (.str w):=by
 have h1:=Int.emod_nonneg c (show (n:Int)≠0 by omega)
 have h2:=Int.emod_lt_of_pos c (show (0:Int)<n by omega)
 have hi:(c % (n:Int)).toNat<ws.length:=by omega
 exact ⟨ws[(c % (n:Int)).toNat],List.getElem_mem hi,Xv h1 (by rw [List.getElem?_map,List.getElem?_eq_getElem hi]; rfl)⟩
def RowP (z:Str):Prop:=Zhk z=true/\z.length<=20
theorem rowP {z:Str} (h:(Zhk z && decide (z.length<=20))=true):RowP z:=by
 rw [Bool.and_eq_true] at h
 exact ⟨h.1,of_decide_eq_true h.2⟩
theorem Y8 {n:Nat} {z:Str} {t:TA} {σ:St} {H:Hp} (h:(Zhk z && decide (z.length<=20))=true) (ht:∀ H1,Same H H1->TxL RowP n t σ H1):TxL RowP (n+1) (Za (tC (.str z)) t) σ H:=Y6 (Ze7 (rowP h)) ht
theorem Zmd {K:Fq} {a:V} {H:Hp} {Q:VK} {E:XK} (h:Zeh K a H Q E):Hm K (Rt Q) [some a,none] H:=by
 obtain ⟨c,rfl,q⟩:=h
 unfold Hm
 refine Zu (Z0 (Zgr (P:=RowP) (Y8 (by decide +kernel) λ _ _=>Y8 (by decide +kernel) λ _ _=>Y8 (by decide +kernel) λ _ _=>Y8 (by decide +kernel) λ _ _=>Y8 (by decide +kernel) λ _ _=>Y8 (by decide +kernel) λ _ _=>Y8 (by decide +kernel) λ _ _=>Y8 (by decide +kernel) λ _ _=>Y8 (by decide +kernel) λ _ _=>Y8 (by decide +kernel) λ _ _=>Y8 (by decide +kernel) λ _ _=>Y8 (by decide +kernel) λ _ _=>Wy) (by decide) λ p1 ws1 H1 s1 h1 k1 l1=>Zw ?_))
 try dsimp only
 refine Zu (Z0 (Zbe (P:=RowP) (m:=12) rfl h1 k1 l1 (Y8 (by decide +kernel) λ _ _=>Y8 (by decide +kernel) λ _ _=>Y8 (by decide +kernel) λ _ _=>Y8 (by decide +kernel) λ _ _=>Y8 (by decide +kernel) λ _ _=>Y8 (by decide +kernel) λ _ _=>Y8 (by decide +kernel) λ _ _=>Y8 (by decide +kernel) λ _ _=>Y8 (by decide +kernel) λ _ _=>Wy) (by decide) (by decide) λ p2 ws2 H2 s2 h2 k2 l2=>Zw ?_))
 try dsimp only
 refine Zu (Z0 (Zbe (P:=RowP) (m:=21) rfl h2 k2 l2 (Y8 (by decide +kernel) λ _ _=>Y8 (by decide +kernel) λ _ _=>Y8 (by decide +kernel) λ _ _=>Y8 (by decide +kernel) λ _ _=>Y8 (by decide +kernel) λ _ _=>Y8 (by decide +kernel) λ _ _=>Y8 (by decide +kernel) λ _ _=>Y8 (by decide +kernel) λ _ _=>Y8 (by decide +kernel) λ _ _=>Y8 (by decide +kernel) λ _ _=>Wy) (by decide) (by decide) λ p3 ws3 H3 s3 h3 k3 l3=>Zw ?_))
 try dsimp only
 refine Zu (Z0 (Zbe (P:=RowP) (m:=31) rfl h3 k3 l3 (Y8 (by decide +kernel) λ _ _=>Y8 (by decide +kernel) λ _ _=>Y8 (by decide +kernel) λ _ _=>Y8 (by decide +kernel) λ _ _=>Y8 (by decide +kernel) λ _ _=>Y8 (by decide +kernel) λ _ _=>Y8 (by decide +kernel) λ _ _=>Wy) (by decide) (by decide) λ p4 ws4 H4 s4 h4 k4 l4=>Zw ?_))
 try dsimp only
 refine Zu (Z0 (Zbe (P:=RowP) (m:=38) rfl h4 k4 l4 (Y8 (by decide +kernel) λ _ _=>Y8 (by decide +kernel) λ _ _=>Y8 (by decide +kernel) λ _ _=>Y8 (by decide +kernel) λ _ _=>Y8 (by decide +kernel) λ _ _=>Y8 (by decide +kernel) λ _ _=>Y8 (by decide +kernel) λ _ _=>Y8 (by decide +kernel) λ _ _=>Y8 (by decide +kernel) λ _ _=>Y8 (by decide +kernel) λ _ _=>Wy) (by decide) (by decide) λ p5 ws5 H5 s5 h5 k5 l5=>Zw ?_))
 try dsimp only
 obtain ⟨w,hw,ew⟩:=Zkp (c:=c) l5 (by decide)
 exact Z4 (Zk (Zd rfl (Zk (Zd rfl (w_c (Y5 (by decide) (Yo (v:=.str w) (SqL.of h5) ew (q w H5 ((((s1.trans s2).trans s3).trans s4).trans s5) (k5 w hw).2 λ kvs B=>Zpz (k5 w hw).1 kvs B))))))))
theorem Zpk {k:Nat}:∀ {ls:List Nat},(∀ x∈ls,x<=k)->ls.sum<=ls.length*k
 | [],_=>Nat.zero_le _
 | x::ls,h=>by
   have h1:=h x (by simp)
   have h2:=Zpk (k:=k) (ls:=ls) λ y hy=>h y (List.mem_cons_of_mem _ hy)
   rw [List.sum_cons,List.length_cons,Nat.add_mul]
   omega
theorem Zit {n:Nat} {ps as:List Int} (g:GoodDay n (ps,as)):∀ w∈List.zipWith Yk ps as,w.length<=39:=λ w hw=>by
 obtain ⟨p,a,rfl,mp,ma⟩:=Zhu hw
 have hp:=g.pr p mp
 have ha:=g.am a ma
 obtain ⟨p',rfl⟩:=Kq (show 0<=p by omega)
 obtain ⟨a',rfl⟩:=Kq ha.1
 exact Zxk (by rw [Zhz]; omega) (by rw [Zhz]; omega)
theorem Z30 {n:Nat} {ps as:List Int} (g:GoodDay n (ps,as)) (n6:n<=6):(Xd ps as).length<=1000:=by
 unfold Xd
 rw [Uw]
 have h1:=StrLaws.join_length_le (sg 32) (List.zipWith Yk ps as)
 have h2:=Zpk (k:=39) (ls:=(List.zipWith Yk ps as).map (·.length)) λ x hx=>by
  obtain ⟨w,hw,rfl⟩:=List.mem_map.mp hx
  exact Zit g w hw
 have l1:(List.zipWith Yk ps as).length<=6:=by
  rw [List.length_zipWith]
  have:ps.length=n:=g.l1
  omega
 have l3:(sg 32).length=1:=rfl
 rw [List.length_map] at h2
 rw [l3,Nat.mul_one] at h1
 omega
theorem Zqt {n:Nat} {ps as:List Int} (g:GoodDay n (ps,as)) (n6:n<=6):JoinOk (" ":Str) (List.zipWith Yk ps as)=true:=by
 rw [U3]
 unfold JoinOk
 rw [Bool.not_eq_true']
 have l1:(List.zipWith Yk ps as).length<=6:=by
  rw [List.length_zipWith]
  have:ps.length=n:=g.l1
  omega
 have l3:(sg 32).length=1:=rfl
 exact StrLaws.joinFits (B:=39) (Zit g) (by rw [l3]; omega)
theorem Zw5 {K:Fq} {a b:Addr} {ps as:List Int} {H1:Hp} {σ:St} {l:List (Option Nat)} {te:TE} {Q:Hp->Prop} (f:Int->Int->V) (D:Addr) (ha:H1 a=some (.tup (ps.map V.int))) (hb:H1 b=some (.tup (as.map V.int))) (hl:as.length=ps.length) (hn:ps.length<=8)
 (hD:H1 D=none) (hini:∃ r0 r1,X5 l σ=[r0,r1])
 (hs:∀ p q H (R:VK),p∈ps->q∈as->R (f p q) H->te [some (.int p),some (.int q)] H R) (hd:∀ H,Same H1 H->H D=some (.lst (List.zipWith f ps as))->Q H) :
 ∃ W:CompW,(∃ m,W 0 m [] (X5 l σ) (upd H1 D (.lst [])))/\Jt (Itz K a b) (Zhp K 2 (Wl (Zt 0) (Wl (Zt 1) Zf2))) Qa te D W Q:=by
 obtain ⟨r0,r1,hini⟩:=hini
 refine ⟨λ i m ys σ H=>m=ps.length-i/\i<=ps.length/\H D=some (.lst ys)/\Same H1 H/\ys=(List.zipWith f ps as).take i/\∃ r0 r1,σ=[r0,r1],⟨_,rfl,Nat.zero_le _,Zr,Same.laid hD,by simp,r0,r1,hini⟩,?_⟩
 rintro i m ys σ H ⟨rfl,hi,hH,s1,rfl,q0,q1,rfl⟩
 refine ⟨hH,?_⟩
 have ea:=SqT.of (K:=K) (s1 _ _ ha)
 have eb:=SqT.of (K:=K) (s1 _ _ hb)
 by_cases hlt:i<ps.length
 · have hx:(ps.map V.int)[i]?=some (.int (ps.getD i 0)):=Ux hlt
   have hy:(as.map V.int)[i]?=some (.int (as.getD i 0)):=Ux (by omega)
   have hz:(List.zipWith f ps as)[i]?=some (f (ps.getD i 0) (as.getD i 0)):=by
    rw [List.getElem?_zipWith,List.getD,List.getD,List.getElem?_eq_getElem hlt,List.getElem?_eq_getElem (show i<as.length by omega)]; rfl
   refine .inr ⟨⟨_,_,_,_,ea,eb,hx,hy⟩,λ v σ2 H4=>v=f (ps.getD i 0) (as.getD i 0)/\Same H1 H4/\H4 D=some (.lst ((List.zipWith f ps as).take i))/\∃ r0 r1,σ2=[r0,r1],λ _ _=>False,?_,λ _ _ z=>z.elim,?_⟩
   · rintro v σ2 H4 ⟨rfl,s4,h4,z⟩
     refine ⟨h4,Wt (by simp; omega),ps.length-(i+1),by omega,rfl,hlt,Zr,s4.put hD,?_,z⟩
     rw [List.take_succ,hz]; rfl
   · rintro v H' ⟨p,x,y,hp0,rfl,gx,gy,rfl⟩
     have e1:x=.int (ps.getD i 0):=by have:=gx _ ea; rw [hx] at this; cases this; rfl
     have e2:y=.int (as.getD i 0):=by have:=gy _ eb; rw [hy] at this; cases this; rfl
     subst e1 e2
     refine Zpc (SqT.of Zr) rfl (Vf (Zw (Vf (Zw (Zjq (Ze4 (iteT ?_)))))))
     exact hs _ _ _ _ (Qx hlt) (Qx (by omega)) ⟨rfl,s1.laidT hp0,Same.laid hp0 _ _ hH,_,_,rfl⟩
 · have e:i=ps.length:=by omega
   subst e
   refine .inl ⟨⟨_,_,ea,eb,.inl (by simp)⟩,hd H s1 ?_⟩
   rw [hH,List.take_of_length_le (by simp; omega)]
theorem Zzn (ps as:List Int):List.zipWith (λ p a=>V.str (Yk p a)) ps as=(List.zipWith Yk ps as).map V.str:=by rw [List.map_zipWith]
theorem Zp4 {K:Fq} {a:V} {H:Hp} {Q:VK} {E:XK} (h:Zg7 K a H Q E):Zbj K (Rt Q) [some a] H:=by
 obtain ⟨m,⟨ps,as⟩,rd,g,m1,m6,q⟩:=h
 obtain ⟨t,p1,p2,rfl,ht,h1,h2⟩:=Zey rd
 replace h1:H p1=some (.tup (ps.map V.int)):=h1
 replace h2:H p2=some (.tup (as.map V.int)):=h2
 have lp:ps.length=m:=g.l1
 have la:as.length=m:=g.l2
 unfold Zbj
 refine Z4 (K1 (w_c ⟨rfl,Zb (Jk (Zo4 (Zb (Zk (Zd rfl (w_c (Xx (v:=.ref p1) (SqT.of ht) rfl (Zb (Zk (Zd rfl (w_c (Xx (v:=.ref p2) (SqT.of ht) rfl (Zh ⟨p1,p2,rfl,⟨_,SqT.of h1⟩,⟨_,SqT.of h2⟩,λ D hD=>?_⟩)))))))))))))⟩))
 refine Zw5 (K:=K) (ps:=ps) (as:=as) (λ p a=>.str (Yk p a)) D h1 h2 (by omega) (by omega) hD ⟨none,none,rfl⟩ (λ x y H5 R hx hy kk=>?_) λ H5 s5 h5=>?_
 · have bx:=g.pr x hx
   have by_:=g.am y hy
   obtain ⟨x',rfl⟩:=Kq (show 0<=x by omega)
   obtain ⟨y',rfl⟩:=Kq by_.1
   have x19:x'<10 ^ 19:=by rw [Zhz]; omega
   have y19:y'<10 ^ 19:=by rw [Zhz]; omega
   have l1:(decS (x':Nat)).length<=19:=(Zex (k:=19) (by decide) x19).2
   have l2:(decS (y':Nat)).length<=19:=(Zex (k:=19) (by decide) y19).2
   have k9:(1000:Nat)<=sizeLine:=by decide
   have lx:("x":Str).length=1:=rfl
   refine Zk (Zk (Ye (Zb (Zd rfl (Zh ⟨(y':Int),rfl,Zv8 y19,w_c ⟨decS (y':Nat),("x":Str),rfl,rfl,by omega,?_⟩⟩)))))
   refine Ye (Zb (Zd rfl (Zh ⟨(x':Int),rfl,Zv8 x19,decS (y':Nat)++("x":Str),decS (x':Nat),rfl,rfl,by rw [PySem.Str.length_append]; omega,?_⟩)))
   rw [Z1g]
   exact kk
 rw [Zzn] at h5
 refine Zh ⟨_,D,List.zipWith Yk ps as,rfl,rfl,SqL.of h5,Zqt g m6,?_⟩
 have et:Txt.join (" ":Str) (List.zipWith Yk ps as)=Xd ps as:=by rw [U3]; rfl
 rw [et]
 exact q H5 s5
theorem Xf (a b c:Str):a++b++c=a++(b++c):=W5 (by simp [Yi])
theorem Z1c (a:Str):a++("":Str)=a:=W5 (by rw [Yi,show ("":Str).cps.toList=[] from rfl,List.append_nil])
theorem Ztr {z:Str} {r:List Nat} (e:z.cps.toList=112::117::116::32::r):Txt.startswith z ("put ":Str)=true:=by
 have l1:("put ":Str).length=4:=rfl
 have l2:("put ":Str).cps.toList=[112,117,116,32]:=rfl
 have l3:z.length=r.length+4:=by rw [← X6,e]; rfl
 unfold Txt.startswith
 rw [StrLaws.subAt_eq,e,l1,l2,l3,decide_eq_true (show 0+4<=r.length+4 by omega),Bool.true_and]
 show ([112,117,116,32] == [112,117,116,32])=true
 rfl
theorem Zvf {z:Str} {c:Nat} {r:List Nat} (e:z.cps.toList=c::r) (hc:c≠112):Txt.startswith z ("put ":Str)=false:=by
 have l1:("put ":Str).length=4:=rfl
 have l2:("put ":Str).cps.toList=[112,117,116,32]:=rfl
 unfold Txt.startswith
 rw [StrLaws.subAt_eq,e,l1,l2,Bool.and_eq_false_iff]
 refine .inr ?_
 show (c::r.take 3 == [112,117,116,32])=false
 rw [beq_eq_false_iff_ne]
 intro z
 exact hc (List.cons.inj z).1
theorem Zaw {ws:List Str} {c:Nat} {r:List Nat} (h0:ws≠[]) (hf:∀ w∈ws,32 ∉ w.cps.toList) (e:(Str.join (sg 32) ws).cps.toList=c::r) (hc:c≠112):Yg (Str.join (sg 32) ws)=ws:=by
 unfold Yg
 rw [Zvf e hc,if_neg (by decide),U7 32 h0 hf]
theorem Ve {n t:Str} (hn:32 ∉ n.cps.toList):Yg (("put ":Str)++n++sg 32++t)=[("put":Str),n,t]:=by
 unfold Yg
 have e0:("put ":Str)=("put":Str)++sg 32:=by decide +kernel
 have l2:("put ":Str).cps.toList=[112,117,116,32]:=rfl
 rw [Ztr (r:=n.cps.toList++32::t.cps.toList) (by rw [Yi,Yi,Yi,l2]; simp [sg]),if_pos rfl,e0]
 exact Zpm (by decide) (by decide +kernel) hn
def Zk2 (w:Str):Bool:=w.cps.toList.all λ c=>decide (c<128) && decide (c≠32)
theorem Zh9 {w:Str} (h:Zk2 w=true):(∀ c∈w.cps.toList,c<128)/\32 ∉ w.cps.toList:=by
 have h':=List.all_eq_true.mp h
 refine ⟨λ c hc=>?_,λ z=>?_⟩
 · have:=h' c hc
   rw [Bool.and_eq_true] at this
   exact of_decide_eq_true this.1
 · have:=h' 32 z
   simp at this
theorem Je {w:Str} (h:Xb w=true):(∀ c∈w.cps.toList,c<128)/\32 ∉ w.cps.toList/\w.length<=8:=by
 unfold Xb at h
 rw [Bool.and_eq_true,Bool.and_eq_true] at h
 have h':=List.all_eq_true.mp (show lowB w=true from h.2)
 refine ⟨λ c hc=>?_,λ z=>?_,of_decide_eq_true h.1.2⟩
 · have:=h' c hc
   rw [Bool.and_eq_true] at this
   have:=of_decide_eq_true this.2
   omega
 · have:=h' 32 z
   simp at this
theorem Zws {w:Str} (h:32 ∉ w.cps.toList) {a:Str} (ha:Zk2 a=true):∀ x∈[a,w],32 ∉ x.cps.toList:=λ x hx=>by
 rcases List.mem_cons.mp hx with rfl | hx
 · exact (Zh9 ha).2
 · rcases List.mem_cons.mp hx with rfl | hx
   · exact h
   · cases hx
theorem Zwt {v w:Str} (hv:32 ∉ v.cps.toList) (h:32 ∉ w.cps.toList) {a:Str} (ha:Zk2 a=true):∀ x∈[a,v,w],32 ∉ x.cps.toList:=λ x hx=>by
 rcases List.mem_cons.mp hx with rfl | hx
 · exact (Zh9 ha).2
 · rcases List.mem_cons.mp hx with rfl | hx
   · exact hv
   · rcases List.mem_cons.mp hx with rfl | hx
     · exact h
     · cases hx
theorem Ztc {w:Str} (h:32 ∉ w.cps.toList):Yg (("take ":Str)++w)=[("take":Str),w]:=by
 have e:("take ":Str)++w=Str.join (sg 32) [("take":Str),w]:=by
  rw [show ("take ":Str)=("take":Str)++sg 32 by decide +kernel]; rfl
 rw [e]
 exact Zaw (c:=116) (r:=[97,107,101,32]++w.cps.toList) (by simp) (Zws h (by decide +kernel)) (by rw [← e,Yi,show ("take ":Str).cps.toList=[116,97,107,101,32] from rfl]; rfl) (by decide)
theorem Zax {v w:Str} (hv:32 ∉ v.cps.toList) (h:32 ∉ w.cps.toList):Yg (("cost":Str)++sg 32++(v++sg 32++w))=[("cost":Str),v,w] :=
 Zaw (ws:=[("cost":Str),v,w]) (c:=99) (r:=[111,115,116,32]++(v++sg 32++w).cps.toList) (by simp) (Zwt hv h (by decide +kernel)) (by rw [Q8,Yi,Yi,show ("cost":Str).cps.toList=[99,111,115,116] from rfl]; rfl) (by decide)
theorem Zgn {v w:Str} (hv:32 ∉ v.cps.toList) (h:32 ∉ w.cps.toList):Yg (("better":Str)++sg 32++(v++sg 32++w))=[("better":Str),v,w] :=
 Zaw (ws:=[("better":Str),v,w]) (c:=98) (r:=[101,116,116,101,114,32]++(v++sg 32++w).cps.toList) (by simp) (Zwt hv h (by decide +kernel)) (by rw [Q8,Yi,Yi,show ("better":Str).cps.toList=[98,101,116,116,101,114] from rfl]; rfl) (by decide)
def TV (te:TE) (w:Str) (σ:St):Prop:=∀ (H:Hp) (R:VK),R (.str w) H->te σ H R
theorem Qf {w:Str} {σ:St}:TV (tC (.str w)) w σ:=λ _ _ h=>w_c h
theorem Xp {w:Str} {σ:St} {i:Nat} (e:σ[i]?=some (some (.str w))):TV (Zc i) w σ:=λ _ _ h=>Zd e h
theorem Y7 {a b:TE} {x y:Str} {σ:St} (h1:TV a x σ) (h2:TV b y σ) (hl:x.length+y.length<=1000):TV (tOp Yn a b) (x++y) σ :=
 λ H R h=>Zk (h1 H _ (h2 H _ ⟨x,y,rfl,rfl,Nat.le_trans hl (by decide),h⟩))
theorem Wv {P:Str->Prop} {te:TE} {w:Str} {σ:St} {H:Hp} (h:TV te w σ) (p:P w):TxE P te σ H:=λ R k=>h H R (k w H (Same.refl _) p)
def wrongs:List Str:=["","abcdefghi","A","a1","1","a-","zz","new"]
def wrB (w:Str):Bool:=(decide (w.length<=9) && Zk2 w) && (!Xb w || decide (w=("zz":Str)) || decide (w=("new":Str)))
theorem Zuw:∀ i,i<8->(wrB (wrongs.getD i "") && (decide (6<=i) || !Xb (wrongs.getD i "")))=true:=by decide +kernel
structure Wr (w:Str):Prop where
 len:w.length<=9
 asc:ascT w
 free:32 ∉ w.cps.toList
 no:∀ ks,KeysOk ks->w ∉ ks
theorem Z25 {w:Str} (h:wrB w=true):Wr w:=by
 unfold wrB at h
 rw [Bool.and_eq_true,Bool.and_eq_true] at h
 obtain ⟨⟨h1,h2⟩,h3⟩:=h
 have l9:=of_decide_eq_true h1
 obtain ⟨f1,f2⟩:=Zh9 h2
 refine ⟨l9,⟨f1,by omega⟩,f2,λ ks hk hm=>?_⟩
 obtain ⟨_,z1,z2,z3⟩:=hk
 rw [Bool.or_eq_true,Bool.or_eq_true] at h3
 rcases h3 with (h3 | h3) | h3
 · rw [(z3 w hm).2] at h3; cases h3
 · exact z1 (of_decide_eq_true h3 ▸ hm)
 · exact z2 (of_decide_eq_true h3 ▸ hm)
def NamP (z:Str):Prop:=z.length<=400/\∀ kvs B,KeysOk (Z2 kvs)->RefW kvs B (Yg z) .name
theorem Zeq {z:Str} (hz:z.length<=400) {n1 n2:Str} (e:Yg z=[("cost":Str),n1,n2]\/Yg z=[("better":Str),n1,n2]) (h:Wr n1\/Wr n2):NamP z :=
 ⟨hz,λ kvs B hk=>.inr (.inr (.inr (.inr (.inr (.inl ⟨n1,n2,e,by rcases h with h | h; exact .inl (h.no _ hk); exact .inr (h.no _ hk),rfl⟩)))))⟩
theorem Zmq {n t:Str} (hn:Wr n) (nb:Xb n=false) (ht:ascT t) (tl:t.length<=300):NamP (("put ":Str)++n++sg 32++t):=by
 have l4:("put ":Str).length=4:=rfl
 have l1:(sg 32).length=1:=rfl
 have l9:=hn.len
 refine ⟨by rw [PySem.Str.length_append,PySem.Str.length_append,PySem.Str.length_append]; omega,λ kvs B hk=>.inr (.inr (.inr (.inr (.inr (.inr ⟨n,t,Ve hn.free,hn.asc,ht,.inl ⟨nb,rfl⟩⟩)))))⟩
theorem Zk1:32 ∉ ("a":Str).cps.toList:=by decide +kernel
theorem Zrq {w:Str} (h:(w.cps.toList.all (λ c=>decide (c<128)) && decide (w.length<=900))=true):ascT w:=by
 rw [Bool.and_eq_true] at h
 exact ⟨λ c hc=>of_decide_eq_true (List.all_eq_true.mp h.1 c hc),of_decide_eq_true h.2⟩
theorem Z3r {w:Str} (h:Wr w):NamP (("take ":Str)++w):=by
 have l4:("take ":Str).length=5:=rfl
 have l9:=h.len
 exact ⟨by rw [PySem.Str.length_append]; omega,λ kvs B hk=>.inr (.inr (.inr (.inr (.inl ⟨w,Ztc h.free,h.no _ hk,rfl⟩))))⟩
theorem Z3q {w:Str} (h:Wr w):NamP (("cost a ":Str)++w):=by
 have l4:("cost a ":Str).length=7:=rfl
 have l9:=h.len
 have e:("cost a ":Str)++w=("cost":Str)++sg 32++(("a":Str)++sg 32++w):=by
  rw [show ("cost a ":Str)=("cost":Str)++sg 32++(("a":Str)++sg 32) by decide +kernel,Xf,]
 refine Zeq (by rw [PySem.Str.length_append]; omega) (.inl (by rw [e]; exact Zax Zk1 h.free)) (.inr h)
theorem Z3p {w:Str} (h:Wr w):NamP (("cost ":Str)++w++(" a":Str)):=by
 have l4:("cost ":Str).length=5:=rfl
 have l5:(" a":Str).length=2:=rfl
 have l9:=h.len
 have e:("cost ":Str)++w++(" a":Str)=("cost":Str)++sg 32++(w++sg 32++("a":Str)):=by
  rw [show ("cost ":Str)=("cost":Str)++sg 32 by decide +kernel,show (" a":Str)=sg 32++("a":Str) by decide +kernel,Xf (("cost":Str)++sg 32),Xf w]
 refine Zeq (by rw [PySem.Str.length_append,PySem.Str.length_append]; omega) (.inl (by rw [e]; exact Zax h.free Zk1)) (.inl h)
theorem Z3o {w:Str} (h:Wr w):NamP (("better ":Str)++w++(" a":Str)):=by
 have l4:("better ":Str).length=7:=rfl
 have l5:(" a":Str).length=2:=rfl
 have l9:=h.len
 have e:("better ":Str)++w++(" a":Str)=("better":Str)++sg 32++(w++sg 32++("a":Str)):=by
  rw [show ("better ":Str)=("better":Str)++sg 32 by decide +kernel,show (" a":Str)=sg 32++("a":Str) by decide +kernel,Xf (("better":Str)++sg 32),Xf w]
 refine Zeq (by rw [PySem.Str.length_append,PySem.Str.length_append]; omega) (.inr (by rw [e]; exact Zgn h.free Zk1)) (.inl h)
theorem Z3n {w:Str} (h:Wr w):NamP (("better a ":Str)++w):=by
 have l4:("better a ":Str).length=9:=rfl
 have l9:=h.len
 have e:("better a ":Str)++w=("better":Str)++sg 32++(("a":Str)++sg 32++w):=by
  rw [show ("better a ":Str)=("better":Str)++sg 32++(("a":Str)++sg 32) by decide +kernel,Xf]
 refine Zeq (by rw [PySem.Str.length_append]; omega) (.inr (by rw [e]; exact Zgn Zk1 h.free)) (.inr h)
theorem Z3m {w:Str} (h:Wr w):NamP (("cost ":Str)++w++(" ":Str)++w):=by
 have l4:("cost ":Str).length=5:=rfl
 have l5:(" ":Str).length=1:=rfl
 have l9:=h.len
 have e:("cost ":Str)++w++(" ":Str)++w=("cost":Str)++sg 32++(w++sg 32++w):=by
  rw [show ("cost ":Str)=("cost":Str)++sg 32 by decide +kernel,U3,Xf (("cost":Str)++sg 32),Xf (("cost":Str)++sg 32)]
 refine Zeq (by rw [PySem.Str.length_append,PySem.Str.length_append,PySem.Str.length_append]; omega) (.inl (by rw [e]; exact Zax h.free h.free)) (.inl h)
theorem Zkc {K:Fq} {a b:V} {H:Hp} {Q:VK} {E:XK} (h:Zc2 K a b H Q E):Vq K (Rt Q) [some a,some b,none,none] H:=by
 obtain ⟨c,T,rfl,rfl,aT,lT,q⟩:=h
 unfold Vq
 have r0:=Int.emod_nonneg c (show (8:Int)≠0 by decide)
 have r1:=Int.emod_lt_of_pos c (show (0:Int)<8 by decide)
 have hi:(c % 8).toNat<8:=by omega
 have ok:=Zuw _ hi
 obtain ⟨w,ew⟩:∃ w,wrongs[(c % 8).toNat]?=some w:=⟨_,List.getElem?_eq_getElem (show (c % 8).toNat<wrongs.length from hi)⟩
 have ed:wrongs.getD (c % 8).toNat ""=w:=by rw [List.getD,ew]; rfl
 rw [ed,Bool.and_eq_true] at ok
 have W:=Z25 ok.1
 have nb:c % 8<6->Xb w=false:=λ z=>by
  have:=ok.2
  rw [decide_eq_false (by omega),Bool.false_or] at this
  simpa using this
 have l9:=W.len
 refine Zu (Z0 (Zk (Jz (Zb (w_c (Zb (w_c (Zb (w_c (Zb (w_c (Zb (w_c (Zb (w_c (Zb (w_c (Zb (w_c (Zh ⟨by show 8<=sizeLine; decide,λ p hp=>?_⟩))))))))))))))))))))
 refine Zk (Zd rfl (w_c (Y5 (by decide) (Yo (xs:=wrongs.map V.str) (v:=.str w) (SqL.of Zr) (Xv r0 (by rw [List.getElem?_map,ew]; rfl)) (Zw ?_)))))
 have s1:∀ o,Same H (upd H p o):=λ o=>Same.laid hp
 try dsimp only
 have l1:("take ":Str).length=5:=rfl
 have l2:("cost a ":Str).length=7:=rfl
 have l3:("cost ":Str).length=5:=rfl
 have l4:(" a":Str).length=2:=rfl
 have l5:("better ":Str).length=7:=rfl
 have l6:("better a ":Str).length=9:=rfl
 have l7:(" ":Str).length=1:=rfl
 have l8:("put ":Str).length=4:=rfl
 have l10:(" 3x":Str).length=3:=rfl
 refine Zu (Z0 (Zgr (P:=NamP) (Y6 (Wv (Y7 Qf (Xp rfl) (by omega)) (Z3r W)) λ _ _=>Y6 (Wv (Y7 Qf (Xp rfl) (by omega)) (Z3q W)) λ _ _=>Y6 (Wv (Y7 (Y7 Qf (Xp rfl) (by omega)) Qf (by rw [PySem.Str.length_append]; omega)) (Z3p W)) λ _ _=>Y6 (Wv (Y7 (Y7 Qf (Xp rfl) (by omega)) Qf (by rw [PySem.Str.length_append]; omega)) (Z3o W)) λ _ _=>Y6 (Wv (Y7 Qf (Xp rfl) (by omega)) (Z3n W)) λ _ _=>Wy) (by decide) λ p1 ws1 H2 s2 h2 k2 e2=>Zw ?_))
 try dsimp only
 refine Zu (Z0 (Zbe (P:=NamP) (m:=5) rfl h2 k2 e2 (Y6 (Wv (Y7 (Y7 (Y7 Qf (Xp rfl) (by omega)) Qf (by rw [PySem.Str.length_append]; omega)) (Xp rfl) (by rw [PySem.Str.length_append,PySem.Str.length_append]; omega)) (Z3m W)) λ _ _=>Wy) (by decide) (by decide) λ p2 ws2 H3 s3 h3 k3 e3=>Zw ?_))
 try dsimp only
 have fin:∀ {n:Nat} {p3:Addr} {ws:List Str} {H4:Hp},0<n->n<=100->Same H H4->H4 p3=some (.lst (ws.map V.str))->(∀ w∈ws,NamP w)->ws.length=n->(Zz (tOp (rIx K) (Zc 3) (tOp rModU (tOp rDivU (Zc 0) (tC (.int 8))) (tCB (rLenU K) (Za (Zc 3) Zg))))) (Rt Q) [some (.int c),some (.str T),some (.str w),some (.ref p3)] H4:=by
  intro n p3 ws H4 n0 n1 s4 h4 k4 e4
  obtain ⟨x,hx,ex⟩:=Zkp (c:=c / 8) e4 n0
  refine Z4 (Zk (Zd rfl (Zk (Zk (Zd rfl (w_c (Qn (by decide) (by decide) (Ye (Zb (Zd rfl (Zh (Ji (SqL.of h4) ?_))))))))))))
  rw [List.length_map,e4]
  exact Y5 (by omega) (Yo (v:=.str x) (SqL.of h4) ex (q x H4 s4 (k4 x hx).1 (k4 x hx).2))
 have s03:=((s1 _).trans s2).trans s3
 refine Zu (Yv (Xe (Zk (Zk (Zd rfl (w_c (Y5 (by decide) (w_c (Ztg (Xc (iteD (λ lt=>?_) λ ge=>Ys (fin (n:=6) (by decide) (by decide) s03 h3 k3 e3))))))))))))
 refine Z0 (Zbe (P:=NamP) (m:=6) rfl h3 k3 e3 (Y6 (Wv (Y7 (Y7 (Y7 Qf (Xp rfl) (by omega)) Qf (by rw [PySem.Str.length_append]; omega)) (Xp rfl) (by rw [PySem.Str.length_append,PySem.Str.length_append]; omega)) ?_) λ _ _=>Y6 (Wv (Y7 (Y7 Qf (Xp rfl) (by omega)) Qf (by rw [PySem.Str.length_append]; omega)) ?_) λ _ _=>Y6 (Wv (Y7 (Y7 Qf (Xp rfl) (by omega)) Qf (by rw [PySem.Str.length_append]; omega)) ?_) λ _ _=>Wy) (by decide) (by decide) λ p4 ws4 H4 s4 h4 k4 e4=>Zw (fin (n:=9) (by decide) (by decide) (s03.trans s4) h4 k4 e4))
 · rw [U3]; exact Zmq W (nb lt) aT lT
 · have e:("put ":Str)++w++(" 3x":Str)=("put ":Str)++w++sg 32++("3x":Str):=by rw [show (" 3x":Str)=sg 32++("3x":Str) by decide +kernel,Xf (("put ":Str)++w)]
   rw [e]; exact Zmq W (nb lt) (Zrq (by decide +kernel)) (by decide)
 · have e:("put ":Str)++w++(" ":Str)=("put ":Str)++w++sg 32++("":Str):=by rw [U3,Z1c]
   rw [e]; exact Zmq W (nb lt) (Zrq (by decide +kernel)) (by decide)
theorem Zda {s:Str}:∀ {ws:List Str} {v:Str},ws≠[]->Str.join s (ws++[v])=Str.join s ws++s++v
 | [],_,h=>absurd rfl h
 | [x],v,_=>rfl
 | x::y::r,v,_=>by
   have e:=Zda (s:=s) (ws:=y::r) (v:=v) (by simp)
   show x++s++Str.join s ((y::r)++[v])=x++s++Str.join s (y::r)++s++v
   rw [e,Xf (x++s++Str.join s (y::r)),Xf (x++s),Xf (Str.join s (y::r))]
theorem Zwg {s y:Str} {ws:List Str} {w:Str}:Str.join s (ws++[w])++y=Str.join s (ws++[w++y]):=by
 by_cases h:ws=[]
 · subst h; rfl
 · rw [Zda h,Zda h,Xf]
theorem Zks {s y w:Str} {ws:List Str}:y++Str.join s (w::ws)=Str.join s ((y++w)::ws):=by
 cases ws with
 | nil=>rfl
 | cons v r=>rw [Q8,Q8,← Xf,← Xf]
theorem Zwf {s:Str} {w:Str} {ws:List Str}:s++Str.join s (w::ws)=Str.join s (("":Str)::w::ws):=by
 rw [Q8]
 exact W5 (by rw [Yi,Yi,Yi]; rfl)
theorem Zku {c:Nat} {s:Str}:∀ {ts:List Str},c∈(Str.join s ts).cps.toList->c∈s.cps.toList\/∃ t∈ts,c∈t.cps.toList
 | [],h=>absurd h (by show ¬ c∈([]:List Nat); simp)
 | [x],h=>.inr ⟨x,by simp,h⟩
 | x::y::r,h=>by
   rw [Q8,Yi,Yi] at h
   rcases List.mem_append.mp h with h | h
   · rcases List.mem_append.mp h with h | h
     · exact .inr ⟨x,by simp,h⟩
     · exact .inl h
   · rcases Zku h with h | ⟨t,ht,h⟩
     · exact .inl h
     · exact .inr ⟨t,List.mem_cons_of_mem _ ht,h⟩
theorem Zeb {n:Nat} {ps as:List Int} (g:GoodDay n (ps,as)):∀ w∈List.zipWith Yk ps as,∃ p a:Nat,w=Yk (p:Nat) (a:Nat)/\1<=p:=λ w hw=>by
 obtain ⟨p,a,rfl,mp,ma⟩:=Zhu hw
 have hp:=g.pr p mp
 have ha:=g.am a ma
 obtain ⟨p',rfl⟩:=Kq (show 0<=p by omega)
 obtain ⟨a',rfl⟩:=Kq ha.1
 exact ⟨p',a',rfl,by omega⟩
theorem Zhv {n:Nat} {ps as:List Int} (g:GoodDay n (ps,as)) (n1:1<=n):List.zipWith Yk ps as≠[]:=λ e=>by
 have:=congrArg List.length e
 rw [List.length_zipWith,show ps.length=n from g.l1,show as.length=n from g.l2] at this
 have z:min n n=0:=this
 omega
theorem Zpe {n:Nat} {ps as:List Int} (g:GoodDay n (ps,as)):∀ c∈(Xd ps as).cps.toList,c<128:=λ c hc=>by
 unfold Xd at hc
 rw [Uw] at hc
 rcases Zku hc with h | ⟨t,ht,h⟩
 · have:c=32:=by simpa [sg] using h
   omega
 · obtain ⟨p,a,rfl,_⟩:=Zeb g t ht
   unfold Yk at h
   rw [Yi,Yi] at h
   rcases List.mem_append.mp h with h | h
   · rcases List.mem_append.mp h with h | h
     · have:=Zdc h; omega
     · have:c=120:=by simpa [sg] using h
       omega
   · have:=Zdc h; omega
theorem Hh {n:Nat} {ps as:List Int} (g:GoodDay n (ps,as)) (n6:n<=6):(Xd ps as).length<=240:=by
 unfold Xd
 rw [Uw]
 have h1:=StrLaws.join_length_le (sg 32) (List.zipWith Yk ps as)
 have h2:=Zpk (k:=39) (ls:=(List.zipWith Yk ps as).map (·.length)) λ x hx=>by
  obtain ⟨w,hw,rfl⟩:=List.mem_map.mp hx
  exact Zit g w hw
 have l1:(List.zipWith Yk ps as).length<=6:=by
  rw [List.length_zipWith]
  have:ps.length=n:=g.l1
  omega
 have l3:(sg 32).length=1:=rfl
 rw [List.length_map] at h2
 rw [l3,Nat.mul_one] at h1
 omega
theorem Zll {ws:List Str} {w:Str} (h0:ws≠[]) (hf:∀ x∈ws,32 ∉ x.cps.toList) (hm:w∈ws) (hb:Q0 w=false\/1000000000<valN (prtB w)):Xm (Str.join (sg 32) ws)=false:=by
 cases e:Xm (Str.join (sg 32) ws) with
 | false=>rfl
 | true =>
   have h:=(Zqy.mp e).1 w (by unfold Ql; rw [U7 32 h0 hf]; exact hm)
   rcases hb with hb | hb
   · rw [hb] at h; cases h.1
   · have:=h.2.2.1; omega
theorem Zm3 (m:Nat):valN (decS (m:Nat))=m:=by
 unfold valN
 rw [Vd,PySem.W.KIN.val_back]
theorem Z03 {p:Nat} (h:0<p):(decS ((p*10:Nat):Int)).cps.toList=(decS (p:Nat)).cps.toList++[48]:=by
 have t:Nat.toDigits 10 p++Nat.toDigits 10 0=Nat.toDigits 10 (10*p+0):=Nat.toDigits_append_toDigits (by decide) h (by decide)
 rw [Vd,Vd,show p*10=10*p+0 by omega,← t,List.map_append]
 rfl
theorem Zrf {p:Nat} (h:0<p):∀ k,(decS ((p*10 ^ k:Nat):Int)).cps.toList=(decS (p:Nat)).cps.toList++List.replicate k 48
 | 0=>by simp
 | k+1=>by
   rw [show p*10 ^ (k+1)=(p*10 ^ k)*10 by rw [Nat.pow_succ,Nat.mul_assoc],Z03 (Nat.mul_pos h (Nat.pow_pos (by decide))),Zrf h k,List.append_assoc,List.replicate_succ']
abbrev zer:Str:="000000000000000"
theorem Zxi:zer.cps.toList=List.replicate 15 48:=by decide +kernel
theorem Zxj {p a:Nat} (h:1<=p):Yk (p:Nat) (a:Nat)++zer=Yk ((p*10 ^ 15:Nat):Int) (a:Nat):=by
 refine W5 ?_
 unfold Yk
 rw [Yi,Yi _ (decS ((p*10 ^ 15:Nat):Int)),Zrf h 15,Zxi,Yi _ (decS (p:Nat)),List.append_assoc]
theorem Zgo (p a:Nat):prtB (Yk (p:Nat) (a:Nat))=decS (p:Nat):=by unfold prtB; rw [Ze2]; rfl
theorem Ztf (p a:Nat):Q0 (("-":Str)++Yk (p:Nat) (a:Nat))=false:=by
 have e:("-":Str)++Yk (p:Nat) (a:Nat)=Str.join (sg 120) [("-":Str)++decS (a:Nat),decS (p:Nat)]:=by
  rw [Zm7]; exact Zks
 have l1:("-":Str).cps.toList=[45]:=rfl
 have es:Txt.split (("-":Str)++Yk (p:Nat) (a:Nat)) (sg 120)=[("-":Str)++decS (a:Nat),decS (p:Nat)]:=by
  rw [e]
  refine U7 120 (by simp) λ w hw=>?_
  rcases List.mem_cons.mp hw with rfl | hw
  · rw [Yi,l1]
    intro z
    rcases List.mem_append.mp z with z | z
    · simp at z
    · exact Uy (by omega) z
  · rcases List.mem_cons.mp hw with rfl | hw
    · exact Uy (by omega)
    · cases hw
 have eA:prtA (("-":Str)++Yk (p:Nat) (a:Nat))=("-":Str)++decS (a:Nat):=by unfold prtA; rw [es]; rfl
 cases h:Q0 (("-":Str)++Yk (p:Nat) (a:Nat)) with
 | false=>rfl
 | true =>
   unfold Q0 at h
   rw [Bool.and_eq_true,Bool.and_eq_true,eA] at h
   have d:=(Zc7 h.2.1).2.2.1
   have:=List.all_eq_true.mp d 45 (by rw [Yi,l1]; simp)
   simp at this
theorem Zte (p a:Nat):Q0 (Yk (p:Nat) (a:Nat)++("x1":Str))=false:=by
 have e:Yk (p:Nat) (a:Nat)++("x1":Str)=Str.join (sg 120) [decS (a:Nat),decS (p:Nat),("1":Str)]:=by
  rw [show ("x1":Str)=sg 120++("1":Str) by decide +kernel]
  show decS (a:Nat)++sg 120++decS (p:Nat)++(sg 120++("1":Str))=decS (a:Nat)++sg 120++(decS (p:Nat)++sg 120++("1":Str))
  rw [Xf (decS (a:Nat)++sg 120),Xf (decS (p:Nat))]
 unfold Q0 twoB
 rw [e,U7 120 (by simp) λ w hw=>?_]
 · rfl
 rcases List.mem_cons.mp hw with rfl | hw
 · exact Uy (by omega)
 rcases List.mem_cons.mp hw with rfl | hw
 · exact Uy (by omega)
 rcases List.mem_cons.mp hw with rfl | hw
 · decide +kernel
 · cases hw
def TxtP (z:Str):Prop:=Xm z=false/\ascT z/\z.length<=300
theorem Zbd {z:Str} (h:Xm z=false) (hc:∀ c∈z.cps.toList,c<128) (hl:z.length<=300):TxtP z:=⟨h,⟨hc,by omega⟩,hl⟩
theorem Ztk {z:Str} (h:(!Xm z && (z.cps.toList.all (λ c=>decide (c<128)) && decide (z.length<=300)))=true):TxtP z:=by
 rw [Bool.and_eq_true,Bool.and_eq_true] at h
 exact Zbd (by simpa using h.1) (λ c hc=>of_decide_eq_true (List.all_eq_true.mp h.2.1 c hc)) (of_decide_eq_true h.2.2)
theorem Za9 {a b:Str} (ha:∀ c∈a.cps.toList,c<128) (hb:∀ c∈b.cps.toList,c<128):∀ c∈(a++b).cps.toList,c<128:=λ c hc=>by
 rw [Yi] at hc
 rcases List.mem_append.mp hc with h | h
 · exact ha c h
 · exact hb c h
theorem Zic {w:Str} (h:w.cps.toList.all (λ c=>decide (c<128))=true):∀ c∈w.cps.toList,c<128:=λ c hc=>of_decide_eq_true (List.all_eq_true.mp h c hc)
theorem Zqz {a b:Str} (ha:32 ∉ a.cps.toList) (hb:32 ∉ b.cps.toList):32 ∉ (a++b).cps.toList:=λ hc=>by
 rw [Yi] at hc
 rcases List.mem_append.mp hc with h | h
 · exact ha h
 · exact hb h
section
variable {n:Nat} {ps as:List Int}
theorem Zlm (g:GoodDay n (ps,as)) (n1:1<=n) {v:Str} (hv:32 ∉ v.cps.toList) (hb:Q0 v=false):Xm (Xd ps as++(sg 32++v))=false:=by
 unfold Xd
 rw [Uw,← Xf,← Zda (Zhv g n1)]
 refine Zll (w:=v) (by simp) (λ x hx=>?_) (by simp) (.inl hb)
 rcases List.mem_append.mp hx with hx | hx
 · obtain ⟨p,a,rfl,_⟩:=Zeb g x hx
   exact Uh p a
 · have:x=v:=by simpa using hx
   rw [this]; exact hv
theorem Zyx (g:GoodDay n (ps,as)) (n1:1<=n):Xm (sg 32++Xd ps as)=false:=by
 unfold Xd
 rw [Uw]
 obtain ⟨w,r,e⟩:=List.exists_cons_of_ne_nil (Zhv g n1)
 have hw:=Zeb g
 rw [e] at hw ⊢
 rw [Zwf]
 refine Zll (w:=("":Str)) (by simp) (λ x hx=>?_) (by simp) (.inl (by decide +kernel))
 rcases List.mem_cons.mp hx with rfl | hx
 · decide +kernel
 · obtain ⟨p,a,rfl,_⟩:=hw x hx
   exact Uh p a
theorem Zxh (g:GoodDay n (ps,as)) (n1:1<=n):Xm (("-":Str)++Xd ps as)=false:=by
 unfold Xd
 rw [Uw]
 obtain ⟨w,r,e⟩:=List.exists_cons_of_ne_nil (Zhv g n1)
 have hw:=Zeb g
 rw [e] at hw ⊢
 rw [Zks]
 obtain ⟨p,a,rfl,_⟩:=hw w (by simp)
 refine Zll (w:=("-":Str)++Yk (p:Nat) (a:Nat)) (by simp) (λ x hx=>?_) (by simp) (.inl (Ztf p a))
 rcases List.mem_cons.mp hx with rfl | hx
 · exact Zqz (by decide +kernel) (Uh p a)
 · obtain ⟨p,a,rfl,_⟩:=hw x (List.mem_cons_of_mem _ hx)
   exact Uh p a
theorem Zrp (g:GoodDay n (ps,as)) (n1:1<=n) {y:Str} (hy:32 ∉ y.cps.toList) (hb:∀ p a:Nat,1<=p->Q0 (Yk (p:Nat) (a:Nat)++y)=false\/1000000000<valN (prtB (Yk (p:Nat) (a:Nat)++y))):Xm (Xd ps as++y)=false:=by
 unfold Xd
 rw [Uw]
 have ne:=Zhv g n1
 have hw:=Zeb g
 have e:=(List.dropLast_concat_getLast ne).symm
 have hl:=hw _ (List.getLast_mem ne)
 generalize List.zipWith Yk ps as=ws at *
 generalize ws.getLast ne=w at *
 generalize ws.dropLast=r at *
 subst e
 obtain ⟨p,a,rfl,p1⟩:=hl
 rw [Zwg]
 refine Zll (w:=Yk (p:Nat) (a:Nat)++y) (by simp) (λ x hx=>?_) (by simp) (hb p a p1)
 rcases List.mem_append.mp hx with hx | hx
 · obtain ⟨p,a,rfl,_⟩:=hw x (List.mem_append_left _ hx)
   exact Uh p a
 · have:x=Yk (p:Nat) (a:Nat)++y:=by simpa using hx
   rw [this]
   exact Zqz (Uh p a) hy
theorem Z1a (g:GoodDay n (ps,as)) (n1:1<=n):Xm (Xd ps as++zer)=false :=
 Zrp g n1 (by decide +kernel) λ p a p1=>.inr (by rw [Zxj p1,Zgo,Zm3]; omega)
theorem Z20 (g:GoodDay n (ps,as)) (n1:1<=n):Xm (Xd ps as++("x1":Str))=false :=
 Zrp g n1 (by decide +kernel) λ p a _=>.inl (Zte p a)
end
theorem Zdd {n:Nat} {z:Str} {t:TA} {σ:St} {H:Hp} (h:(!Xm z && (z.cps.toList.all (λ c=>decide (c<128)) && decide (z.length<=300)))=true) (ht:∀ H1,Same H H1->TxL TxtP n t σ H1):TxL TxtP (n+1) (Za (tC (.str z)) t) σ H:=Y6 (Ze7 (Ztk h)) ht
theorem Z1s {z:Str} {m:Int} {σ:St} (ok:MulOk z m):TV (tOp Zt1 (tC (.str z)) (tC (.int m))) (Txt.mul z m) σ:=λ H R h=>Zk (w_c (w_c ⟨z,m,rfl,rfl,ok,h⟩))
theorem Z2h:MulOk ("1":Str) 30:=⟨by decide,λ _ _=>by decide +kernel,λ _ _=>by decide +kernel⟩
theorem Zxp {K:Fq} {P:Str->Prop} {σ:St} {H:Hp} (h:P (Txt.join (" ":Str) (List.replicate 7 ("1x1":Str)))):TxE P (tBM K "str" (Zfq K) (tC (.str " ")) (Za (tOp (rMulU K) (Xi (Za (tC (.str "1x1")) Zg)) (tC (.int 7))) Zg)) σ H:=λ R k=>by
 have ez:(List.replicate (7:Int).toNat [V.str ("1x1":Str)]).flatten=(List.replicate 7 ("1x1":Str)).map V.str:=rfl
 refine K1 (w_c ⟨rfl,Zb (Zk (Jz (Zb (w_c (Zh ⟨by show 1<=sizeLine; decide,λ p hp=>w_c (.inr ⟨p,7,_,rfl,rfl,Zr,by decide,by decide,by show 1*7<=sizeLine; decide,λ p2 hp2=>Zh ?_⟩)⟩)))))⟩)
 rw [ez]
 exact ⟨_,p2,List.replicate 7 ("1x1":Str),rfl,rfl,SqL.of Zr,by decide +kernel,k _ _ ((Same.laid hp).laidT hp2) h⟩
theorem Zkb {K:Fq} {a b c:V} {H:Hp} {Q:VK} {E:XK} (h:Zc1 K a b c H Q E):Vp K (Rt Q) [some a,some b,some c,none] H:=by
 obtain ⟨cc,nm,n,⟨ps,as⟩,rfl,rfl,an,nn,rfl,g,n1,n4,q⟩:=h
 unfold Vp
 obtain ⟨fa,ff,f8⟩:=Je nn
 have tl:=Hh g (by omega)
 have ta:=Zpe g
 dsimp only at q ⊢
 generalize et:Xd ps as=t at *
 have l1:(" ":Str).length=1:=rfl
 have l2:(" x":Str).length=2:=rfl
 have l3:("-":Str).length=1:=rfl
 have l4:("x1":Str).length=2:=rfl
 have l5:("000000000000000":Str).length=15:=rfl
 have l8:("put ":Str).length=4:=rfl
 refine Zu (Z0 (Zgr (P:=TxtP) (Zdd (by decide +kernel) λ _ _=>Zdd (by decide +kernel) λ _ _=>Zdd (by decide +kernel) λ _ _=>Zdd (by decide +kernel) λ _ _=>Zdd (by decide +kernel) λ _ _=>Zdd (by decide +kernel) λ _ _=>Zdd (by decide +kernel) λ _ _=>Zdd (by decide +kernel) λ _ _=>Zdd (by decide +kernel) λ _ _=>Zdd (by decide +kernel) λ _ _=>Y6 (Zxp (Ztk (by decide +kernel))) λ _ _=>Y6 (Wv (Y7 (Xp rfl) Qf (by omega)) ?_) λ _ _=>Wy) (by decide) λ p1 ws1 H1 s1 h1 k1 e1=>Zw ?_))
 · refine Zbd ?_ (Za9 ta (Zic (by decide +kernel))) (by rw [PySem.Str.length_append]; omega)
   have:=Zlm g n1 (v:=("":Str)) (by decide +kernel) (by decide +kernel)
   rw [et] at this
   rw [show (" ":Str)=sg 32++("":Str) by decide +kernel]; exact this
 try dsimp only
 refine Zu (Z0 (Zbe (P:=TxtP) (m:=12) rfl h1 k1 e1 (Y6 (Wv (Y7 Qf (Xp rfl) (by omega)) ?_) λ _ _=>Y6 (Wv (Y7 (Xp rfl) Qf (by omega)) ?_) λ _ _=>Y6 (Wv (Y7 Qf (Xp rfl) (by omega)) ?_) λ _ _=>Y6 (Wv (Y7 (Xp rfl) Qf (by omega)) ?_) λ _ _=>Y6 (Wv (Y7 (Xp rfl) Qf (by omega)) ?_) λ _ _=>Y6 (Wv (Y7 (Z1s Z2h) Qf (by decide +kernel)) (Ztk (by decide +kernel))) λ _ _=>Wy) (by decide) (by decide) λ p2 ws2 H2 s2 h2 k2 e2=>Zw ?_))
 · refine Zbd ?_ (Za9 (Zic (by decide +kernel)) ta) (by rw [PySem.Str.length_append]; omega)
   have:=Zyx g n1
   rw [et] at this
   rw [U3]; exact this
 · refine Zbd ?_ (Za9 ta (Zic (by decide +kernel))) (by rw [PySem.Str.length_append]; omega)
   have:=Zlm g n1 (v:=("x":Str)) (by decide +kernel) (by decide +kernel)
   rw [et] at this
   rw [show (" x":Str)=sg 32++("x":Str) by decide +kernel]; exact this
 · refine Zbd ?_ (Za9 (Zic (by decide +kernel)) ta) (by rw [PySem.Str.length_append]; omega)
   have:=Zxh g n1
   rw [et] at this
   exact this
 · refine Zbd ?_ (Za9 ta (Zic (by decide +kernel))) (by rw [PySem.Str.length_append]; omega)
   have:=Z20 g n1
   rw [et] at this
   exact this
 · refine Zbd ?_ (Za9 ta (Zic (by decide +kernel))) (by rw [PySem.Str.length_append]; omega)
   have:=Z1a g n1
   rw [et] at this
   exact this
 try dsimp only
 obtain ⟨x,hx,ex⟩:=Zkp (c:=cc) e2 (by decide)
 obtain ⟨bx,ax,lx⟩:=k2 x hx
 have tv:TV (tOp Yn (tOp Yn (tC (.str "put ")) (Zc 1)) (tC (.str " "))) (("put ":Str)++nm++(" ":Str)) [some (.int cc),some (.str nm),some (.str t),some (.ref p2)]:=Y7 (Y7 Qf (Xp rfl) (by omega)) Qf (by rw [PySem.Str.length_append]; omega)
 refine Z4 (Zk (tv _ _ (Zk (Zd rfl (Zk (Zd rfl (w_c (Y5 (by decide) (Yo (v:=.str x) (SqL.of h2) ex ⟨_,_,rfl,rfl,?_,?_⟩)))))))))
 · rw [PySem.Str.length_append,PySem.Str.length_append]
   exact Nat.le_trans (show 4+nm.length+1+x.length<=1000 by omega) (by decide)
 · refine q _ H2 (s1.trans s2) ?_ λ kvs B=>?_
   · rw [PySem.Str.length_append,PySem.Str.length_append,PySem.Str.length_append]; omega
   · rw [U3]
     exact .inr (.inr (.inr (.inr (.inr (.inr ⟨nm,x,Ve ff,an,ax,.inr (.inl ⟨nn,bx,rfl⟩)⟩)))))
theorem Zyl {K:Fq} {a b:Addr} {xs ys:List V} {n:Nat} {g:TG} {tb:TS} {D:Ends} {σ:St} {H:Hp} (hx:xs.length=n) (hy:ys.length=n) (Pv:Nat->St->Hp->Prop) (h0:Pv 0 σ H) (hl:∀ i σ H,i<=n->Pv i σ H->SqL K H a xs/\SqT K H b ys)
 (hs:∀ i x y σ H p,xs[i]?=some x->ys[i]?=some y->Pv i σ H->H p=none->g (.ref p) σ (upd H p (.tup [x,y])) λ σ2 H2=>tb { D with nx:=Pv (i+1),ct:=Pv (i+1),bk:=D.nx } σ2 H2) (hd:∀ σ H,Pv n σ H->D.nx σ H) :
 ∃ W:Nat->Nat->St->Hp->Prop,(∃ m,W 0 m σ H)/\∀ i m σ H,W i m σ H ->
   ((Itzm K a b).stop i H/\D.nx σ H)\/((Itzm K a b).go i H/\∃ N:St->Hp->Prop,(∀ σ' H',N σ' H'->∃ m',m'<m/\W (i+1) m' σ' H')/\∀ x H',(Itzm K a b).yld i H x H'->g x σ H' λ σ2 H2=>tb { D with nx:=N,ct:=N,bk:=D.nx } σ2 H2):=by
 refine ⟨λ i m σ H=>m=n-i/\i<=n/\Pv i σ H,⟨n,by simp,Nat.zero_le _,h0⟩,?_⟩
 rintro i m σ H ⟨rfl,hi,p⟩
 obtain ⟨q1,q2⟩:=hl i σ H hi p
 by_cases hlt:i<n
 · have e1:xs[i]?=some (xs[i]'(by omega)):=by simp
   have e2:ys[i]?=some (ys[i]'(by omega)):=by simp
   refine .inr ⟨⟨xs,ys,_,_,q1,q2,e1,e2⟩,Pv (i+1),λ σ' H' p'=>⟨n-(i+1),by omega,rfl,hlt,p'⟩,λ v H' y=>?_⟩
   obtain ⟨t,u,w,ht,rfl,g1,g2,rfl⟩:=y
   exact hs i u w σ H t (g1 xs q1) (g2 ys q2) p ht
 · have e:i=n:=by omega
   subst e
   exact .inl ⟨⟨xs,ys,q1,q2,.inl (by omega)⟩,hd σ H p⟩
def nmAt (i:Nat):Str:=⟨#[97+i]⟩
def ksAt (n:Nat):List Str:=(List.range n).map nmAt
def okN (w:Str):Bool:=(w.cps.toList.all λ c=>decide (c<128)) && decide (w.length<=900) && Xb w
theorem Uv {w:Str} (h:okN w=true):ascT w/\Xb w=true:=by
 unfold okN at h
 rw [Bool.and_eq_true,Bool.and_eq_true,List.all_eq_true] at h
 exact ⟨⟨λ c hc=>of_decide_eq_true (h.1.1 c hc),of_decide_eq_true h.1.2⟩,h.2⟩
theorem at6:∀ i,i<6->atI ("abcdef":Str).cps.toList ((i:Nat):Int)=some (97+i):=by decide +kernel
theorem ok6:∀ i,i<6->okN (nmAt i)=true:=by decide +kernel
theorem Z3i:∀ n,n<7->((ksAt n).all okN)=true:=by decide +kernel
theorem Z2k:∀ n,n<7->(ksAt n).contains ("new":Str)=false:=by decide +kernel
theorem Z3l:∀ i,i<6->(ksAt i).contains (nmAt i)=false:=by decide +kernel
theorem Zsz (i:Nat):ksAt i++[nmAt i]=ksAt (i+1):=by unfold ksAt; rw [List.range_succ,List.map_append]; rfl
theorem Zko {l:List Str} {w:Str} (h:l.contains w=false):w ∉ l:=λ z=>by
 have:l.contains w=true:=List.contains_iff_mem.mpr z
 rw [h] at this; cases this
theorem Zqm:okN ("new":Str)=true:=by decide +kernel
theorem Z2i:okN ("ninth":Str)=true:=by decide +kernel
theorem SameB.sql {K:Fq} {d a:Addr} {H H':Hp} {kvs:List (Key×V)} {xs:List V} (s:SameB d H H') (hd:H d=some (.dK kvs)) (h:SqL K H a xs):SqL K H' a xs:=by
 rcases h with (h | ⟨o,h⟩) | h
 · exact .inl (.inl (s _ _ (Zfy h hd (by simp)) h))
 · exact .inl (.inr ⟨o,s _ _ (Zfy h hd (by simp)) h⟩)
 · exact .inr h
theorem SameB.lst {d a:Addr} {H H':Hp} {kvs:List (Key×V)} {xs:List V} (s:SameB d H H') (hd:H d=some (.dK kvs)) (h:H a=some (.lst xs)):H' a=some (.lst xs):=s _ _ (Zfy h hd (by simp)) h
structure Bes (K:Fq) (H:Hp) (l p ln:Addr) (sc:List Int) (xs:List V) (B:List (List Int×List Int)):Prop where
 script:SqL K H l (sc.map V.int)
 book:H p=some (.tup xs)
 reps:Reps H xs (B.map dayD)
 names:H ln=some (.lst ((ksAt B.length).map V.str))
theorem Bes.mono {K:Fq} {H H':Hp} {l p ln:Addr} {sc:List Int} {xs:List V} {B:List (List Int×List Int)} (s:Same H H') (b:Bes K H l p ln sc xs B):Bes K H' l p ln sc xs B:=⟨s.seq b.script,s _ _ b.book,Reps.mono s _ _ b.reps,s _ _ b.names⟩
theorem Bes.sb {K:Fq} {H H':Hp} {l p ln d:Addr} {sc:List Int} {xs:List V} {B:List (List Int×List Int)} {kvs:List (Key×V)} (s:SameB d H H') (hd:H d=some (.dK kvs)) (b:Bes K H l p ln sc xs B):Bes K H' l p ln sc xs B:=⟨s.sql hd b.script,s.tu hd _ _ b.book,Reps.tu (s.tu hd) _ _ (Zfw B) b.reps,s.lst hd b.names⟩
def BadD (n:Nat) (d:PyData):Prop:=Qs d=false\/Ja d≠n
theorem Zyw {n:Nat} {B:List (List Int×List Int)} {D:PyData} (g:∀ x∈B,GoodDay n x) (ne:B≠[]) (b:BadD n D):Xo (.tuple (B.map dayD++[D]))=false:=by
 unfold Xo
 have it:Qq (.tuple (B.map dayD++[D]))=B.map dayD++[D]:=rfl
 rw [it]
 rcases b with b | b
 · have:(B.map dayD++[D]).all Qs=false:=by
    rw [List.all_eq_false]
    exact ⟨D,by simp,by rw [b]; decide⟩
   rw [this,Bool.and_false,Bool.false_and]
 · obtain ⟨d0,r,rfl⟩:∃ d0 r,B=d0::r:=by
    cases B with
    | nil=>exact absurd rfl ne
    | cons x r=>exact ⟨x,r,rfl⟩
   have w0:Ja (((d0::r).map dayD++[D]).getD 0 .none)=n:=by
    show (d0.1.map PyData.int).length=n
    rw [List.length_map]; exact (g d0 (by simp)).l1
   have:(((d0::r).map dayD++[D]).all λ e=>decide (Ja e=Ja (((d0::r).map dayD++[D]).getD 0 .none)))=false:=by
    rw [List.all_eq_false]
    exact ⟨D,by simp,by rw [w0,decide_eq_false b]; decide⟩
   rw [this,Bool.and_false]
theorem Zxf {n:Nat} {B:List (List Int×List Int)} {d:List Int×List Int} (g:∀ x∈B,GoodDay n x) (gd:GoodDay n d) (n1:1<=n) (n6:n<=6) (l:B.length<=7):Xo (.tuple (B.map dayD++[dayD d]))=true:=by
 have e:(PyData.tuple (B.map dayD++[dayD d]))=Qd (B++[d]):=by unfold Qd; rw [List.map_append]; rfl
 have gg:∀ x∈B++[d],GoodDay n x:=λ x hx=>by
  rcases List.mem_append.mp hx with h | h
  · exact g x h
  · rw [List.mem_singleton.mp h]; exact gd
 rw [e]
 exact Zwq (m:=8) (n:=n) ⟨n1,n6,by simp,by rw [List.length_append,List.length_singleton]; omega,gg⟩ (by decide)
theorem Zxe {Ds:List PyData} {D:PyData} (h:Ds.length=8):Xo (.tuple (Ds++[D]))=false:=by
 unfold Xo
 have:Jq 1 8 (.tuple (Ds++[D]))=false:=by
  show (decide (1<=(Ds++[D]).length) && decide ((Ds++[D]).length<=8))=false
  rw [decide_eq_false (show ¬ (Ds++[D]).length<=8 by rw [List.length_append,List.length_singleton]; omega),Bool.and_false]
 rw [this]; rfl
theorem Zsv {m:Nat} (h:m<10 ^ 19):numB (decS (m:Nat))=true:=by
 obtain ⟨l1,l2⟩:=Zex (k:=19) (by decide) h
 unfold numB
 rw [decide_eq_true l1,decide_eq_true l2]
 have hd:digB (decS (m:Nat))=true:=by
  unfold digB
  rw [List.all_eq_true]
  intro c hc
  have:=Zdc hc
  rw [decide_eq_true this.1,decide_eq_true this.2]; rfl
 rw [hd]
 rcases Nat.eq_zero_or_pos m with rfl | h0
 · rw [Z24]; decide +kernel
 · rw [Ztt h0]; simp
theorem Zm6 (p a:Nat):prtA (Yk (p:Nat) (a:Nat))=decS (a:Nat):=by unfold prtA; rw [Ze2]; rfl
theorem Zuy {p a:Nat} (hp:p<10 ^ 19) (ha:a<10 ^ 19):Q0 (Yk (p:Nat) (a:Nat))=true:=by
 unfold Q0 twoB
 rw [Zm6,Zgo,Zsv hp,Zsv ha,Ze2]; rfl
theorem Zrg:∀ {ps as:List Int},as.length=ps.length->(∀ x∈ps,0<=x)->(∀ x∈as,0<=x)->((List.zipWith Yk ps as).map λ w=>((valN (prtB w):Nat):Int))=ps/\((List.zipWith Yk ps as).map λ w=>((valN (prtA w):Nat):Int))=as
 | [],[],_,_,_=>⟨rfl,rfl⟩
 | [],_::_,h,_,_=>by simp at h
 | _::_,[],h,_,_=>by simp at h
 | p::ps,a::as,h,hp,ha=>by
   obtain ⟨e1,e2⟩:=Zrg (ps:=ps) (as:=as) (by simpa using h) (λ x hx=>hp x (List.mem_cons_of_mem _ hx)) λ x hx=>ha x (List.mem_cons_of_mem _ hx)
   obtain ⟨p',rfl⟩:=Kq (hp p (by simp))
   obtain ⟨a',rfl⟩:=Kq (ha a (by simp))
   rw [List.zipWith_cons_cons,List.map_cons,List.map_cons,e1,e2,Zgo,Zm6,Zm3,Zm3]
   exact ⟨rfl,rfl⟩
theorem Zcw {n:Nat} {g:List Int×List Int} (h:GoodDay n g) (n1:1<=n) (n6:n<=6):Xm (Xd g.1 g.2)=true/\Xn (Xd g.1 g.2)=g:=by
 obtain ⟨ps,as⟩:=g
 have lp:ps.length=n:=h.l1
 have la:as.length=n:=h.l2
 have hp:∀ x∈ps,0<=x:=λ x hx=>by have:=h.pr x hx; omega
 have ha:∀ x∈as,0<=x:=λ x hx=>(h.am x hx).1
 have ew:Ql (Xd ps as)=List.zipWith Yk ps as:=Ztn (by omega) (by omega) hp ha
 have ed:Xn (Xd ps as)=(ps,as):=by
  obtain ⟨e1,e2⟩:=Zrg (ps:=ps) (as:=as) (by omega) hp ha
  unfold Xn
  rw [ew,e1,e2]
 refine ⟨?_,ed⟩
 unfold Xm
 show ((Ql (Xd ps as)).all Q0 && Qs (dayD (Xn (Xd ps as))))=true
 rw [ed,(Zcq h n1 n6).1,Bool.and_true,ew,List.all_eq_true]
 intro w hw
 obtain ⟨p,a,rfl,mp,ma⟩:=Zhu hw
 have b1:=h.pr p mp
 have b2:=h.am a ma
 obtain ⟨p',rfl⟩:=Kq (show 0<=p by omega)
 obtain ⟨a',rfl⟩:=Kq b2.1
 exact Zuy (by rw [Zhz]; omega) (by rw [Zhz]; omega)
theorem Zcx {n:Nat} {g:List Int×List Int} (h:GoodDay n g) (n6:n<=6):ascT (Xd g.1 g.2):=⟨Zpe (ps:=g.1) (as:=g.2) h,by have:=Hh (ps:=g.1) (as:=g.2) h n6; omega⟩
abbrev oneD (k:Nat):List Int×List Int:=(List.replicate k 1,List.replicate k 1)
theorem Zyb {k:Nat} (h:1<=k):GoodDay k (oneD k):=by
 refine ⟨List.length_replicate ..,List.length_replicate ..,λ x hx=>?_,λ x hx=>?_,⟨1,List.mem_replicate.mpr ⟨by omega,rfl⟩,by decide⟩⟩
 · rw [(List.mem_replicate.mp hx).2]; decide
 · rw [(List.mem_replicate.mp hx).2]; decide
theorem Zya:Yk 1 1=("1x1":Str):=by decide +kernel
theorem Zng (k:Nat):List.zipWith Yk (List.replicate k 1) (List.replicate k 1)=List.replicate k ("1x1":Str):=by
 rw [List.zipWith_replicate,Nat.min_self,Zya]
theorem Zxu {n:Nat} {w:Str} {ys:List V} (hy:ys.length=n) (h:∀ (i:Nat) v,ys[i]?=some v->v=.str w):ys=(List.replicate n w).map V.str:=by
 rw [List.map_replicate]
 exact List.eq_replicate_iff.mpr ⟨hy,λ b hb=>let ⟨i,hi⟩:=List.getElem?_of_mem hb; h i b hi⟩
theorem Zyo {n:Nat} {B:List (List Int×List Int)} (g:∀ x∈B,GoodDay n x) (ne:B≠[]):Xo (Qd (B++[oneD (n+1)]))=false:=by
 have e:Qd (B++[oneD (n+1)])=.tuple (B.map dayD++[dayD (oneD (n+1))]):=by unfold Qd; rw [List.map_append]; rfl
 rw [e]
 refine Zyw g ne (.inr ?_)
 show ((List.replicate (n+1) (1:Int)).map PyData.int).length≠n
 rw [List.length_map,List.length_replicate]; omega
theorem CaseOk.mono {H H':Hp} {kvs:Kvs} {B:List (List Int×List Int)} {v:V} (s:Same H H') (h:CaseOk H kvs B v):CaseOk H' kvs B v:=by
 obtain ⟨l,z,r,e,h,lz,w⟩:=h
 exact ⟨l,z,r,e,s _ _ h,lz,w⟩
def CsE (kvs:Kvs) (B:List (List Int×List Int)) (te:TE) (σ:St) (H:Hp):Prop:=∀ R:VK,(∀ v H1,Same H H1->CaseOk H1 kvs B v->R v H1)->te σ H R
def CsL (kvs:Kvs) (B:List (List Int×List Int)) (n:Nat) (t:TA) (σ:St) (H:Hp):Prop:=∀ R:List V->Hp->Prop,(∀ vs H1,Same H H1->(∀ v∈vs,CaseOk H1 kvs B v)->vs.length=n->R vs H1)->t σ H R
theorem Z2w {kvs:Kvs} {B:List (List Int×List Int)} {σ:St} {H:Hp}:CsL kvs B 0 Zg σ H:=λ R k=>Zh (k [] H (Same.refl _) (λ x hx=>nomatch hx) rfl)
theorem Ze0 {kvs:Kvs} {B:List (List Int×List Int)} {n:Nat} {te:TE} {t:TA} {σ:St} {H:Hp} (he:CsE kvs B te σ H) (ht:∀ H1,Same H H1->CsL kvs B n t σ H1):CsL kvs B (n+1) (Za te t) σ H :=
 λ R k=>Zb (he _ λ w H1 s1 p1=>ht H1 s1 _ λ ws H2 s2 p2 hl=>k (w::ws) H2 (s1.trans s2) (λ x hx=>by rcases List.mem_cons.mp hx with rfl | hx; exact p1.mono s2; exact p2 x hx) (by rw [List.length_cons,hl]))
theorem Zld {kvs:Kvs} {B:List (List Int×List Int)} (r:Rk) {te:TE} {σ:St} {H:Hp} (h:TxE (λ z=>z.length<=1000/\RefW kvs B (Yg z) r) te σ H):CsE kvs B (Xi (Za (tC (.str r.txt)) (Za te Zg))) σ H :=
 λ R k=>Jz (Zb (w_c (Zb (h _ λ z H1 s1 p1=>Zh ⟨by show 2<=sizeLine; decide,λ l hl=>k (.ref l) _ (s1.laidT hl) ⟨l,z,r,rfl,Zr,p1.1,p1.2⟩⟩))))
theorem Zsm (x y:Str) (k:Int):∃ v:Str,(v=x\/v=y)/\atI [V.str x,.str y] (k % 2)=some (.str v):=by
 have r0:=Int.emod_nonneg k (show (2:Int)≠0 by decide)
 have r1:=Int.emod_lt_of_pos k (show (0:Int)<2 by decide)
 generalize k % 2=k at r0 r1 ⊢
 rcases (by omega:k=0\/k=1) with rfl | rfl
 · exact ⟨x,.inl rfl,rfl⟩
 · exact ⟨y,.inr rfl,rfl⟩
theorem Zwb {ks:List Str} (h:ks≠[]):∃ w∈ks,atI (ks.map V.str) (-1)=some (.str w):=by
 refine ⟨ks.getLast h,List.getLast_mem h,?_⟩
 have e:=(List.dropLast_concat_getLast h).symm
 rw [show ks.map V.str=(ks.dropLast).map V.str++[.str (ks.getLast h)] by rw [← List.map_singleton (f:=V.str),← List.map_append,← e]]
 exact Zjl _ _
theorem Zvp {kvs:Kvs} {B:List (List Int×List Int)} {nm T:Str} (hm:nm∈Z2 kvs) (ok:ascT nm/\Xb nm=true) (aT:ascT T) (gT:Xm T=true):RefW kvs B (Yg (("put ":Str)++nm++sg 32++T)) .twice :=
 .inr (.inr (.inr (.inr (.inr (.inr ⟨nm,T,Ve (Je ok.2).2.1,ok.1,aT,.inr (.inr (.inl ⟨ok.2,gT,hm,rfl⟩))⟩)))))
theorem Zqd {kvs:Kvs} {B:List (List Int×List Int)} {nm T:Str} (hm:nm ∉ Z2 kvs) (ok:ascT nm/\Xb nm=true) (aT:ascT T) (gT:Xm T=true) (b:Xo (Qd (B++[Xn T]))=false):RefW kvs B (Yg (("put ":Str)++nm++sg 32++T)) .book :=
 .inr (.inr (.inr (.inr (.inr (.inr ⟨nm,T,Ve (Je ok.2).2.1,ok.1,aT,.inr (.inr (.inr ⟨ok.2,gT,hm,b,rfl⟩))⟩)))))
theorem Zmm {nm T:Str} (h:nm.length<=8) (hT:T.length<=300):(("put ":Str)++nm++sg 32++T).length<=1000:=by
 have l4:("put ":Str).length=4:=rfl
 have l1:(sg 32).length=1:=rfl
 rw [PySem.Str.length_append,PySem.Str.length_append,PySem.Str.length_append]; omega
theorem Zn8 {K:Fq} {a b c:V} {H:Hp} {Q:VK} {E:XK} (h:Zgf K a b c H Q E):Er K (Rt Q) [some a,some b,some c,none,none] H:=by
 obtain ⟨cc,l,kvs,B,n,g,rfl,rfl,hl,hk,gB,n1,n4,rd,gd,q⟩:=h
 unfold Er
 refine Zu (Z0 (Z5 (Zb (Zd rfl (Zh ⟨_,rfl,n,g,rd,gd,n1,by omega,λ H1 s1=>Zw ?_⟩)))))
 obtain ⟨gT,dT⟩:=Zcw gd n1 (by omega)
 have aT:=Zcx gd (by omega)
 have lT:=Hh (ps:=g.1) (as:=g.2) gd (by omega)
 have rd1:=Rep.mono s1 _ _ rd
 obtain ⟨t,p1,p2,rfl,ht,h1,h2⟩:=Zey rd1
 have hl1:=s1 _ _ hl
 have lp:g.1.length=n:=gd.l1
 have og:=Zyb (k:=n+1) (by omega)
 obtain ⟨gF,dF⟩:=Zcw og (by omega) (by omega)
 have aF:=Zcx og (by omega)
 have lF:=Hh (ps:=(oneD (n+1)).1) (as:=(oneD (n+1)).2) og (by omega)
 have jF:JoinOk (" ":Str) (List.replicate (n+1) ("1x1":Str))=true:=by
  rw [← Zng]; exact Zqt (ps:=(oneD (n+1)).1) (as:=(oneD (n+1)).2) og (by omega)
 have eF:Txt.join (" ":Str) (List.replicate (n+1) ("1x1":Str))=Xd (oneD (n+1)).1 (oneD (n+1)).2:=by
  unfold Xd; rw [Zng,U3]
 try dsimp only
 refine Zu (Z0 (K1 (w_c ⟨rfl,Zb (Zk (Jk (Vi (Zk (Zd rfl (w_c (Xx (v:=.ref p1) (SqT.of ht) rfl ⟨p1,rfl,.inr ⟨⟨_,SqT.of h1⟩,λ D hD=>?_⟩⟩)))))))⟩)))
 refine Uz (K:=K) (xs:=g.1.map V.int) (.inl ⟨rfl,h1⟩) D (λ _ v _=>v=.str ("1x1":Str)) (λ _ _ _ _ _ h=>h) (by rw [List.length_map]; omega) hD ⟨_,rfl⟩ (λ i x H2 R _ _ k=>w_c (k _ _ (Same.refl _) rfl)) λ ys H2 hy hv s2 h2'=>?_
 have ey:=Zxu (n:=n) (by rw [hy,List.length_map]; exact lp) hv
 rw [ey] at h2'
 refine Jz (Zb (w_c (Zh ⟨by show 1<=sizeLine; decide,λ p3 hp3=>?_⟩)))
 have s3:=Same.laid (o:=.lst ([("1x1":Str)].map V.str)) hp3
 refine Zu8 (ws:=List.replicate n ("1x1":Str)) (vs:=[("1x1":Str)]) (s3 _ _ h2') Zr (by rw [List.length_replicate,List.length_singleton]; omega) λ p4 H4 s4 h4=>Zh ?_
 rw [show List.replicate n ("1x1":Str)++[("1x1":Str)]=List.replicate (n+1) ("1x1":Str) from List.replicate_succ'.symm] at h4
 refine ⟨_,p4,_,rfl,rfl,SqL.of h4,jF,Zw ?_⟩
 rw [eF]
 have s14:=(s2.trans s3).trans s4
 have hl4:=s14 _ _ hl1
 have s04:=s1.trans s14
 clear jF eF ey hv hy h2' s2 s3 s4 s14 hD hp3 h4
 generalize eF:Xd (oneD (n+1)).1 (oneD (n+1)).2=F at gF dF aF lF ⊢
 generalize eT:Xd g.1 g.2=T at gT dT aT lT ⊢
 try dsimp only
 obtain ⟨last,mlast,elast⟩:=Zwb hk.1
 have okl:=hk.2.2.2 last mlast
 have fin:∀ {t:TA} {σ:St},CsL kvs B 5 t σ H4->Zz (Xi t) (Rt Q) σ H4:=λ h=>Z4 (Jz (h _ λ vs H5 s5 h5 l5=>⟨by rw [l5]; show 5<=sizeLine; decide,λ p hp=>q p vs _ ((s04.trans s5).laidT hp) Zr l5 λ v hv=>(h5 v hv).mono (Same.laid hp)⟩))
 refine fin ?_
 refine Ze0 (Zld .row λ R k=>Z5 (Zb (Zk (Zd rfl (w_c (Qn (by decide) (by decide) (Zh ⟨_,rfl,_,rfl,λ z H' s lz r=>k z H' s ⟨by omega,r kvs B⟩⟩))))))) λ H5 s5=>?_
 refine Ze0 (Zld .name λ R k=>Z5 (Zb (Zk (Zd rfl (w_c (Qn (by decide) (by decide) (Zb (Zd rfl (Zh ⟨_,_,rfl,_,T,rfl,rfl,aT,by omega,λ z H' s lz r=>k z H' s ⟨by omega,r kvs B hk⟩⟩))))))))) λ H6 s6=>?_
 have hl6:=(s5.trans s6) _ _ hl4
 refine Ze0 (Zld .text λ R k=>?_) λ H7 s7=>?_
 · obtain ⟨nm,hnm,enm⟩:=Zsm ("new":Str) last (cc / 8)
   have onm:ascT nm/\Xb nm=true:=by
    rcases hnm with rfl | rfl
    · exact Uv Zqm
    · exact okl
   refine Z5 (Zb (Zk (Zd rfl (w_c (Qn (by decide) (by decide) (Zb (Zk (Jz (Zb (w_c (Zb (Zk (Zd rfl (Zxl (w_c (Zpa (Yo (v:=.str last) (SqL.of hl6) elast (Zh ⟨by show 2<=sizeLine; decide,λ p5 hp5=>?_⟩))))))))))))))))))
   have s8:=Same.laid (o:=.lst [.str ("new":Str),.str last]) hp5
   refine Zk (Zk (Zd rfl (w_c (Qn (by decide) (by decide) (w_c (Y5 (by decide) (Yo (v:=.str nm) (SqL.of Zr) enm ?_)))))))
   exact Zb (Zd rfl (Zh ⟨_,_,_,rfl,_,nm,n,g,rfl,rfl,onm.1,onm.2,by rw [eT],gd,n1,n4,λ z H' s lz r=>k z H' (s8.trans s) ⟨by omega,r kvs B⟩⟩))
 have hl7:=s7 _ _ hl6
 refine Ze0 (Zld .twice λ R k=>?_) λ H8 s8=>?_
 · have kl:(Z2 kvs).length=((Z2 kvs).map V.str).length:=(List.length_map ..).symm
   obtain ⟨nm,mnm,enm⟩:=Zkp (ws:=Z2 kvs) (c:=cc / 16) rfl (by have:=hk.1; cases e:Z2 kvs with | nil=>exact absurd e this | cons _ _=>simp)
   have onm:=hk.2.2.2 nm mnm
   obtain ⟨_,_,l8⟩:=Je onm.2
   obtain ⟨X,hX,eX⟩:=Zsm T F (cc / 8)
   have oX:ascT X/\Xm X=true/\X.length<=300:=by
    rcases hX with rfl | rfl
    · exact ⟨aT,gT,by omega⟩
    · exact ⟨aF,gF,by omega⟩
   have l4:("put ":Str).length=4:=rfl
   have l1:(" ":Str).length=1:=rfl
   refine Zk (Zk (Zk (w_c (Zk (Zd rfl (Zk (Zk (Zd rfl (w_c (Qn (by decide) (by decide) (Ye (Zb (Zd rfl (Zh (Ji (SqL.of hl7) ?_)))))))))))))))
   rw [← kl]
   refine Y5 (by have:=hk.1; cases e:Z2 kvs with | nil=>exact absurd e this | cons _ _=>simp) (Yo (v:=.str nm) (SqL.of hl7) enm ⟨_,_,rfl,rfl,Nat.le_trans (show ("put ":Str).length+nm.length<=1000 by omega) (by decide),w_c ⟨_,_,rfl,rfl,Nat.le_trans (show (("put ":Str)++nm).length+(" ":Str).length<=1000 by rw [PySem.Str.length_append]; omega) (by decide),?_⟩⟩)
   refine Zk (Jz (Zb (Zd rfl (Zb (Zd rfl (Zh ⟨by show 2<=sizeLine; decide,λ p5 hp5=>?_⟩))))))
   refine Zk (Zk (Zd rfl (w_c (Qn (by decide) (by decide) (w_c (Y5 (by decide) (Yo (v:=.str X) (SqL.of Zr) eX ⟨_,_,rfl,rfl,Nat.le_trans (show (("put ":Str)++nm++(" ":Str)).length+X.length<=1000 by rw [PySem.Str.length_append,PySem.Str.length_append]; omega) (by decide),?_⟩)))))))
   rw [U3]
   exact k _ _ (Same.laid hp5) ⟨Zmm l8 oX.2.2,Zvp mnm onm oX.1 oX.2.1⟩
 refine Ze0 (Zld .book ?_) λ H9 s9=>Z2w
 have l4:("put new ":Str).length=8:=rfl
 refine Wv (Y7 Qf (Xp rfl) (by omega)) ?_
 have e:("put new ":Str)++F=("put ":Str)++("new":Str)++sg 32++F:=by rw [show ("put new ":Str)=("put ":Str)++("new":Str)++sg 32 by decide +kernel]
 rw [e]
 have bne:B≠[]:=λ z=>by have:=gB.m1; rw [z] at this; simp at this
 exact ⟨Zmm (by decide) (by omega),Zqd hk.2.2.1 (Uv Zqm) aF gF (by rw [dF]; exact Zyo gB.dy bne)⟩
theorem Dsk.say {mg:Str->Option Value} {H:Hp} {v:V} {d:Addr} {kvs:Kvs} (D:Dsk mg H v d kvs) {σ:St} {n:Nat} {Q:VK} {sp:Sp} {E:XK} {t:TA} (e:σ[n]?=some (some v)) (q:t σ H λ vs H2=>sp (v::(vs++[])) H2 Q E):Yw (clsA mg "Desk") "say" sp [] E (Zc n) t σ H Q:=by
 obtain ⟨a,dx,l,rfl,h,L⟩:=D.ex
 exact Zu3 (Zd e ⟨a,dx,_,rfl,h,by rw [List.lookup_cons,show (("say":Str) == ("ledger":Str))=false by decide +kernel]; rfl,q⟩)
theorem Dsk.kept {mg:Str->Option Value} {H:Hp} {v:V} {d:Addr} {kvs:Kvs} (D:Dsk mg H v d kvs):H d=some (.dK (dkv kvs)):=by
 obtain ⟨a,dx,l,rfl,h,L⟩:=D.ex
 exact L.kept
theorem Zu6 {K:Fq} {mg:Str->Option Value} {σ:St} {H:Hp} {Q:VK} {E:XK} (q:∀ x d H',Same H H'->Dsk mg H' (.ref x) d []->Q (.ref x) H'):Zfd (clsA mg "Desk") (Wo K mg) [] E Zg σ H Q:=by
 refine Zu4 (Zh λ x dx hx hdx nex=>⟨_,rfl,x,dx,rfl,Zr,λ d H' s D hd=>⟨rfl,q x d H' (λ b o hb=>s b o (λ z=>?_) ?_) D⟩⟩)
 · rw [z,hx] at hb; cases hb
 · rw [Z1 (λ z=>by rw [z,hx] at hb; cases hb),Z1 (λ z=>by rw [z,hdx] at hb; cases hb)]; exact hb
theorem Zcv {K:Fq} {mg:Str->Option Value} {σ:St} {H:Hp} {Q:VK} {E:XK} {v:V} {d:Addr} {kvs:Kvs} {B:List (List Int×List Int)} {n:Nat} {te:TE} {z:Str} (r:Rk) (D:Dsk mg H v d kvs) (R:Reps H (kvs.map (·.2)) (B.map dayD)) (e:σ[n]?=some (some v)) (tv:TV te z σ) (lz:z.length<=1000) (w:RefW kvs B (Yg z) r) (q:∀ H',Same H H'->Q (.str r.txt) H'):Z7 (Xj K mg) [] E (Za (Zc n) (Za te Zg)) σ H Q :=
 Z5 (Zb (Zd e (Zb (tv _ _ (Zh ⟨_,_,rfl,d,kvs,B,z,r,D,rfl,lz,R,w,q⟩)))))
def Zcn:List Str:=["money","steady","sums","mix","parts","total"]
theorem Zv9:∀ i,i<6->(Zc8 (Zcn.getD i "") && Zk2 (Zcn.getD i "") && decide ((Zcn.getD i "").length<=10))=true:=by decide +kernel
theorem Ztd {w:Str} (h:32 ∉ w.cps.toList):Yg (("kind ":Str)++w)=[("kind":Str),w]:=by
 have e:("kind ":Str)++w=Str.join (sg 32) [("kind":Str),w]:=by
  rw [show ("kind ":Str)=("kind":Str)++sg 32 by decide +kernel]; rfl
 rw [e]
 exact Zaw (c:=107) (r:=[105,110,100,32]++w.cps.toList) (by simp) (Zws h (by decide +kernel)) (by rw [← e,Yi,show ("kind ":Str).cps.toList=[107,105,110,100,32] from rfl]; rfl) (by decide)
def EmpP (r:Rk) (z:Str):Prop:=z.length<=1000/\RefW [] [] (Yg z) r
theorem Zo0 {z:Str} (h:decide (Yg z∈[[("taste":Str)],["cut"],["leave"],["hands"]])=true) (lz:z.length<=1000):EmpP .book z:=by
 have h':=of_decide_eq_true h
 refine ⟨lz,.inr (.inr (.inl ⟨?_,rfl,rfl⟩))⟩
 simpa using h'
theorem Zzk {z:Str} (h:decide (Yg z∈[[("cost":Str),"a","b"],["better","a","b"]])=true) (lz:z.length<=1000):EmpP .name z:=by
 have h':=of_decide_eq_true h
 refine ⟨lz,.inr (.inr (.inr (.inr (.inr (.inl ⟨"a","b",?_,.inl (by simp),rfl⟩)))))⟩
 simpa using h'
theorem Zis {K:Fq} {mg:Str->Option Value} {H:Hp} {Dn:Ends} {v d0 d1 d3 d4:Option V} {x:V} {d:Addr} {t:TA} {n:Nat} (r:Rk) (hx:v=some x) (D:Dsk mg H x d []) (h:∀ H1,Same H H1->TxL (EmpP r) n t [d0,d1,v,d3,d4] H1) (hn:n<=500) (q:∀ H' r4,Same H H'->Dn.nx [d0,d1,v,d3,r4] H') :
 Zbq (iSeq K (Xi t)) (Zt 4) (Y0 (Y4 (tOp (rNeU K) (Z7 (Xj K mg) [] E0 (Za (Zc 2) (Za (Zc 4) Zg))) (tC (.str r.txt)))) (Zz (tC (.bl false))) Yl) Dn [d0,d1,v,d3,d4] H:=by
 subst hx
 refine Ze5 (Vi (Zgr (h H (Same.refl _)) hn λ p ws H2 s2 h2 k2 l2=>⟨p,rfl,.inl ⟨⟨_,SqL.of h2⟩,?_⟩⟩))
 refine Zq0 (K:=K) (a:=p) (xs:=ws.map V.str) (λ i σ' H'=>Same H2 H'/\∃ r4,σ'=[d0,d1,some x,d3,r4]) ⟨Same.refl _,_,rfl⟩ (λ i σ' H' _ z=>SqL.of (z.1 _ _ h2)) ?_ ?_
 · rintro i y σ' H' hy ⟨s,r4,rfl⟩
   rw [List.getElem?_map] at hy
   cases he:ws[i]? with
   | none=>rw [he] at hy; cases hy
   | some w =>
     rw [he] at hy
     have ey:y=.str w:=(Option.some.inj hy).symm
     subst ey
     obtain ⟨lw,rw_⟩:=k2 w (List.mem_of_getElem? he)
     refine Zw (Yv (Xe (Zk (Zcv (B:=[]) r (D.mono (s2.trans s)) Vb rfl (Xp rfl) lw rw_ λ H3 s3=>w_c (Zhw (Xc (Zf0 rfl (Ys ⟨s.trans s3,_,rfl⟩))))))))
 · rintro σ' H' ⟨s,r4,rfl⟩
   exact q H' r4 (s2.trans s)
theorem Zj9 {K:Fq} {mg:Str->Option Value} (M:Md K mg) {a b:V} {H:Hp} {Q:VK} {E:XK} (h:Zcz K mg a b H Q E):Vn K mg (Rt Q) [some a,some b,none,none,none] H:=by
 obtain ⟨c,T,rfl,rfl,aT,lT,q⟩:=h
 unfold Vn
 refine Zu (Z0 (Zu6 λ x d H1 s1 D1=>Zw ?_))
 try dsimp only
 have r0:=Int.emod_nonneg c (show (6:Int)≠0 by decide)
 have r1:=Int.emod_lt_of_pos c (show (0:Int)<6 by decide)
 have hi:(c % 6).toNat<6:=by omega
 have ok:=Zv9 _ hi
 obtain ⟨w,ew⟩:∃ w,Zcn[(c % 6).toNat]?=some w:=⟨_,List.getElem?_eq_getElem (show (c % 6).toNat<Zcn.length from hi)⟩
 have ed:Zcn.getD (c % 6).toNat ""=w:=by rw [List.getD,ew]; rfl
 rw [ed,Bool.and_eq_true,Bool.and_eq_true] at ok
 obtain ⟨⟨kw,fw⟩,lw⟩:=ok
 replace lw:=of_decide_eq_true lw
 refine Zu (Z0 (Zk (Jz (Zb (w_c (Zb (w_c (Zb (w_c (Zb (w_c (Zb (w_c (Zb (w_c (Zh ⟨by show 6<=sizeLine; decide,λ p hp=>?_⟩))))))))))))))))
 refine Zk (Zd rfl (w_c (Y5 (by decide) (Yo (xs:=Zcn.map V.str) (v:=.str w) (SqL.of Zr) (Xv r0 (by rw [List.getElem?_map,ew]; rfl)) (Zw ?_)))))
 have s2:∀ o,Same H1 (upd H1 p o):=λ o=>Same.laid hp
 have D2:∀ o,Dsk mg (upd H1 p o) (.ref x) d []:=λ o=>D1.mono (s2 o)
 have s12:∀ o,Same H (upd H1 p o):=λ o=>s1.trans (s2 o)
 try dsimp only
 have l5:("kind ":Str).length=5:=rfl
 have l6:("put A ":Str).length=6:=rfl
 refine Zu (Zis (n:=5) .book rfl (D2 _) (λ H3 _=>Y6 (Ze7 (Zo0 (by decide +kernel) (by decide))) λ _ _=>Y6 (Ze7 (Zo0 (by decide +kernel) (by decide))) λ _ _=>Y6 (Ze7 (Zo0 (by decide +kernel) (by decide))) λ _ _=>Y6 (Ze7 (Zo0 (by decide +kernel) (by decide))) λ _ _=>Y6 (Wv (Y7 Qf (Xp rfl) (by omega)) ⟨by rw [PySem.Str.length_append]; omega,.inr (.inr (.inr (.inl ⟨w,Ztd (Zh9 fw).2,kw,rfl,rfl⟩)))⟩) λ _ _=>Wy) (by decide) λ H3 r4 s3=>?_)
 have D3:=(D2 _).mono s3
 try dsimp only
 refine Zu (Zis (n:=4) .name rfl D3 (λ H4 _=>Y6 (Ze7 (Zzk (by decide +kernel) (by decide))) λ _ _=>Y6 (Ze7 (Zzk (by decide +kernel) (by decide))) λ _ _=>Y6 (Ze7 ⟨by decide,.inr (.inr (.inr (.inr (.inl ⟨"a",by decide +kernel,by simp,rfl⟩))))⟩) λ _ _=>Y6 (Wv (Y7 Qf (Xp rfl) (by omega)) ⟨by rw [PySem.Str.length_append]; omega,?_⟩) λ _ _=>Wy) (by decide) λ H4 r5 s4=>?_)
 · rw [show ("put A ":Str)=("put ":Str)++("A":Str)++sg 32 by decide +kernel]
   exact .inr (.inr (.inr (.inr (.inr (.inr ⟨"A",T,Ve (by decide +kernel),Zrq (by decide +kernel),aT,.inl ⟨by decide +kernel,rfl⟩⟩)))))
 have D4:=D3.mono s4
 try dsimp only
 refine Z4 (Ui (Zk (Zcv (B:=[]) .row D4 Vb rfl Qf (by decide) (Zpz (by decide +kernel) [] []) λ H5 s5=>w_c (Zhx ⟨_,rfl,Zzj rfl ?_⟩))))
 have D5:=D4.mono s5
 refine Zk (D5.say rfl (Zb (w_c (Zh ⟨_,_,rfl,d,[],[],_,D5,rfl,by decide,Vb,.inr (.inl ⟨by decide +kernel,by decide +kernel,λ H6 s6=>w_c (Zhx ?_)⟩)⟩))))
 rw [decide_eq_true (show Vg (Z2 [])=("-":Str) by decide +kernel)]
 exact q H6 (((((s12 _).trans s3).trans s4).trans s5).trans s6)
structure DkB (mg:Str->Option Value) (H:Hp) (v:V) (d:Addr) (kvs:Kvs) (B:List (List Int×List Int)) (n:Nat):Prop where
 dsk:Dsk mg H v d kvs
 reps:Reps H (kvs.map (·.2)) (B.map dayD)
 good:∀ x∈B,GoodDay n x
 n1:1<=n
 n6:n<=6
section
variable {K:Fq} {mg:Str->Option Value} {H:Hp} {v:V} {d:Addr} {kvs:Kvs} {B:List (List Int×List Int)} {n:Nat} {σ:St} {i:Nat} {Q:VK} {E:XK}
theorem DkB.mono {H':Hp} (s:Same H H') (D:DkB mg H v d kvs B n):DkB mg H' v d kvs B n:=⟨D.dsk.mono s,Reps.mono s _ _ D.reps,D.good,D.n1,D.n6⟩
theorem DkB.len (D:DkB mg H v d kvs B n):kvs.length=B.length:=by
 have:=Reps.length D.reps
 simpa using this
theorem Zso {te:TE} {nm:Str} {g:List Int×List Int} (D:DkB mg H v d kvs B n) (e:σ[i]?=some (some v)) (l7:B.length<=7) (ok:okN nm=true) (no:nm ∉ Z2 kvs) (gd:GoodDay n g) (tv:∀ R:VK,(∀ H',Same H H'->R (.str (("put ":Str)++nm++(" ":Str)++Xd g.1 g.2)) H')->te σ H R)
 (q:∀ u H',SameB d H H'->DkB mg H' v d (kvs++[(nm,u)]) (B++[g]) n->Q (.str "ok") H'):Yw (clsA mg "Desk") "say" (Xg K mg) [] E (Zc i) (Za te Zg) σ H Q:=by
 refine D.dsk.say e (Zb (tv _ λ H1 s1=>Zh ?_))
 have D1:=D.mono s1
 obtain ⟨gT,dT⟩:=Zcw gd D.n1 D.n6
 have aT:=Zcx gd D.n6
 have lT:=Hh (ps:=g.1) (as:=g.2) gd D.n6
 obtain ⟨an,nn⟩:=Uv ok
 obtain ⟨_,fn,l8⟩:=Je nn
 rw [U3]
 refine ⟨_,_,rfl,d,kvs,B,_,D1.dsk,rfl,Zmm l8 (by omega),D1.reps,.inr (.inr (.inr ⟨nm,_,Ve fn,an,aT,nn,gT,no,?_,λ u H' sb ru D'=>?_⟩))⟩
 · have w:=Zxf D.good gd D.n1 D.n6 l7
   have e:Qd (B++[g])=.tuple (B.map dayD++[dayD g]):=by unfold Qd; rw [List.map_append]; rfl
   rw [dT,e]; exact w
 · rw [dT] at ru
   have tu:=sb.tu D1.dsk.kept
   refine q u H' ((Same.sb s1).trans sb) ⟨D',?_,λ x hx=>?_,D.n1,D.n6⟩
   · rw [List.map_append,List.map_append]
     exact Zi4 (Reps.tu tu _ _ (Zfw B) D1.reps) (Ea ru Vb)
   · rcases List.mem_append.mp hx with h | h
     · exact D.good x h
     · rw [List.mem_singleton.mp h]; exact gd
theorem Zxx (D:DkB mg H v d kvs B n) (e:σ[i]?=some (some v)) (jo:JoinOk (sg 32) (Z2 kvs)=true) (q:∀ H',Same H H'->Q (.str (Vg (Z2 kvs))) H'):Yw (clsA mg "Desk") "say" (Xg K mg) [] E (Zc i) (Za (tC (.str "days")) Zg) σ H Q :=
 D.dsk.say e (Zb (w_c (Zh ⟨_,_,rfl,d,kvs,B,_,D.dsk,rfl,by decide,D.reps,.inr (.inl ⟨by decide +kernel,jo,q⟩)⟩)))
theorem Zpx {te:TE} {m1 m2:Str} {j1 j2:Nat} (D:DkB mg H v d kvs B n) (e:σ[i]?=some (some v)) (b1:1<=B.length) (k1:(Z2 kvs)[j1]?=some m1) (k2:(Z2 kvs)[j2]?=some m2) (f1:Xb m1=true) (f2:Xb m2=true) (tv:∀ R:VK,(∀ H',Same H H'->R (.str (("cost":Str)++sg 32++(m1++sg 32++m2))) H')->te σ H R)
 (q:∀ H',Same H H'->Q (.str (decS (Jd B j1 j2))) H'):Yw (clsA mg "Desk") "say" (Xg K mg) [] E (Zc i) (Za te Zg) σ H Q:=by
 refine D.dsk.say e (Zb (tv _ λ H1 s1=>Zh ?_))
 have D1:=D.mono s1
 obtain ⟨_,g1,l1⟩:=Je f1
 obtain ⟨_,g2,l2⟩:=Je f2
 have l4:("cost":Str).length=4:=rfl
 have l5:(sg 32).length=1:=rfl
 refine ⟨_,_,rfl,d,kvs,B,_,D1.dsk,rfl,?_,D1.reps,.inr (.inr (.inl ⟨m1,m2,n,j1,j2,Zax g1 g2,k1,k2,⟨D.n1,D.n6,b1,by rw [D.len]; exact Nat.le_refl _,D.good⟩,D.n1,D.n6,λ m H' em s=>?_⟩))⟩
 · rw [PySem.Str.length_append,PySem.Str.length_append,PySem.Str.length_append,PySem.Str.length_append]; omega
 · rw [← em]; exact q H' (s1.trans s)
end
theorem Zrh {m n:Nat} {B:List (List Int×List Int)} (g:GoodBook m n B) {i j:Nat} (hi:i<B.length) (hj:j<B.length):(Jd B i j).natAbs.log2<1920:=by
 obtain ⟨c1,c2⟩:=Zs8 g hi hj
 refine (Nat.log2_lt (by omega)).mpr (Nat.lt_of_le_of_lt (show (Jd B i j).natAbs<=6000000000000000000000000000 by omega) ?_)
 exact Nat.lt_of_lt_of_le (show 6000000000000000000000000000<2 ^ 140 by decide) (Nat.pow_le_pow_right (by decide) (by decide))
def newN:List Str:=["new","zz","n","ne","newa","newb","newc"]
theorem Z3j:∀ i,i<7->okN (newN.getD i "")=true:=by decide +kernel
theorem Z3k:∀ n,n<7->∀ m,m<7->(ksAt n++newN.take m).contains (newN.getD m "")=false:=by decide +kernel
theorem Z2j:∀ n,n<7->∀ m,m<8->(ksAt n++newN.take m).contains ("ninth":Str)=false:=by decide +kernel
theorem Z0l:∀ m,m<7->newN.take m++[newN.getD m ""]=newN.take (m+1):=by decide +kernel
theorem Z3u:∀ n,n<7->(ksAt n).contains ("zz":Str)=false:=by decide +kernel
theorem Zzh:∀ n,n<7->JoinOk (sg 32) (ksAt n)=true:=by decide +kernel
theorem Z0p {n:Nat} (h1:1<=n) (h7:n<7):KeysOk (ksAt n):=by
 refine ⟨λ z=>?_,Zko (Z3u n h7),Zko (Z2k n h7),λ k hk=>Uv (List.all_eq_true.mp (Z3i n h7) k hk)⟩
 have:=congrArg List.length z
 unfold ksAt at this
 simp at this
 omega
theorem Zoz {n i:Nat} (h:i<n):(ksAt n)[i]?=some (nmAt i):=by
 unfold ksAt
 rw [List.getElem?_map,List.getElem?_range h]; rfl
theorem Zqs (n:Nat):(ksAt n).length=n:=by unfold ksAt; simp
theorem Z32:nmAt 0=("a":Str):=by decide +kernel
theorem Zye {H:Hp} {xs:List V} {B:List (List Int×List Int)} {n:Nat} (R:Reps H xs (B.map dayD)) (ne:1<=B.length) (g:∀ x∈B,GoodDay n x):∃ v b,atI xs (-1)=some v/\Rep H v (dayD b)/\GoodDay n b:=by
 have hx:xs.length=B.length:=by have:=Reps.length R; simpa using this
 have xne:xs≠[]:=λ z=>by rw [z] at hx; simp at hx; omega
 have e:=List.dropLast_concat_getLast xne
 obtain ⟨dd,hdd,rg⟩:=Reps.get R (List.getElem?_eq_getElem (show xs.length-1<xs.length by omega))
 have hj:xs.length-1<B.length:=by omega
 rw [List.getElem?_map,List.getElem?_eq_getElem hj] at hdd
 cases hdd
 refine ⟨_,_,?_,rg,g _ (List.getElem_mem hj)⟩
 have:atI (xs.dropLast++[xs.getLast xne]) (-1)=some (xs.getLast xne):=Zjl _ _
 rw [e] at this
 rw [this,List.getLast_eq_getElem]
theorem Zyt {B:List (List Int×List Int)} {m:Nat} (b1:1<=B.length) (m1:1<=m):Jd (B++List.replicate m (B.getD 0 ([],[]))) 0 B.length=Jd B 0 0:=by
 unfold Jd
 have e1:(B++List.replicate m (B.getD 0 ([],[]))).getD 0 ([],[])=B.getD 0 ([],[]):=by
  rw [List.getD,List.getElem?_append_left (by omega),← List.getD]
 have e2:(B++List.replicate m (B.getD 0 ([],[]))).getD B.length ([],[])=B.getD 0 ([],[]):=by
  rw [List.getD,List.getElem?_append_right (by omega),Nat.sub_self,List.getElem?_replicate,if_pos (by omega)]; rfl
 rw [e1,e2]
theorem Z10 {K:Fq} {mg:Str->Option Value} (M:Md K mg) {a:V} {H:Hp} {Q:VK} {E:XK} (h:Zpv K a H Q E):Zpf K mg (Rt Q) [some a,none,none,none,none,none,none,none,none,none,none,none] H:=by
 obtain ⟨l,sc,rfl,hl,hb,hlen,q⟩:=h
 unfold Zpf
 refine Zu (Z0 (Z5 (Zb (Zd rfl (Zb (w_c (Zb (w_c (Zb (w_c (Zh ⟨_,_,_,_,rfl,l,sc,4,6,4,rfl,rfl,rfl,rfl,hl,hb,by decide,by decide,by decide,by decide,by decide,λ v B k H1 s1 rB gB kn _=>Zw ?_⟩)))))))))))
 try dsimp only
 obtain ⟨p,xs,rfl,hp,rs⟩:=Zrz rB
 have m1:=gB.m1
 have m6:B.length<=6:=gB.m8
 have k1:=gB.n1
 have hx:xs.length=B.length:=by have:=Reps.length rs; simpa using this
 have n7:B.length<7:=by omega
 refine Zu (Z0 (Jk (Zba (Zb (Ye (Zb (Zd rfl (Zh (Vj (SqT.of hp) (Zh ⟨_,rfl,(Wc (by omega)).1,(Wc (by omega)).2,λ D hD=>?_⟩))))))))))
 refine Zsj D (λ _=>true) (λ i=>V.str (nmAt i)) (by omega) hD ⟨_,rfl⟩ (λ i H3 R hi s3 k=>Ze4 k) (λ i H3 R hi _ s3 k=>?_) λ H2 s2 h2=>Zw ?_
 · exact Zk (w_c (Zd rfl (.inr (.inr ⟨_,_,_,rfl,rfl,by show 6<=sizeLine; decide,at6 i (by omega),k⟩))))
 have h2':H2 D=some (.lst ((ksAt B.length).map V.str)):=by
  have hf:(List.range xs.length).filter (λ _=>true)=List.range xs.length:=List.filter_eq_self.mpr λ _ _=>rfl
  rw [h2,Int.toNat_natCast,hf,hx]
  unfold ksAt
  rw [List.map_map]; rfl
 clear h2
 have b2:Bes K H2 l p D sc xs B:=⟨(s1.trans s2).seq hl,s2 _ _ hp,Reps.mono s2 _ _ rs,h2'⟩
 clear h2'
 try dsimp only
 refine Zu (Z0 (Z5 (Zb (Zd rfl (Zb (w_c (Zh ⟨_,_,rfl,l,sc,1,rfl,rfl,b2.script,hb,by decide,Zw ?_⟩)))))))
 generalize Za6 sc 1=cc
 try dsimp only
 have gd:∀ x∈B,GoodDay k x:=gB.dy
 have x0:0<xs.length:=by omega
 have e0:B.getD 0 ([],[])=B[0]:=by rw [List.getD,List.getElem?_eq_getElem (show 0<B.length by omega)]; rfl
 have g0:GoodDay k (B.getD 0 ([],[])):=by rw [e0]; exact gd _ (List.getElem_mem _)
 have first:∀ {H':Hp},Bes K H' l p D sc xs B->Rep H' xs[0] (dayD (B.getD 0 ([],[]))):=λ b=>by
  obtain ⟨dd,hdd,r⟩:=Reps.get b.reps (List.getElem?_eq_getElem x0)
  rw [List.getElem?_map,List.getElem?_eq_getElem (show 0<B.length by omega)] at hdd
  cases hdd
  rw [e0]; exact r
 generalize eg:B.getD 0 ([],[])=g at g0 first
 have aT:=Zcx g0 (by omega)
 have lT:=Hh (ps:=g.1) (as:=g.2) g0 (by omega)
 have at0:atI xs 0=some xs[0]:=Xv (by decide) (List.getElem?_eq_getElem x0)
 refine Zu (Yv (w_not (Wu (Z5 (Zb (Zd rfl (Zb (Z5 (Zb (Zk (Zd rfl (w_c (Xx (v:=xs[0]) (SqT.of b2.book) at0 (Zh ⟨_,rfl,k,g,first b2,g0,k1,by omega,λ H3 s3=>Zh ⟨_,_,rfl,cc,_,rfl,rfl,aT,by omega,λ H4 s4=>Jh (iteF (Ys ?_))⟩⟩))))))))))))))
 have b4:=b2.mono (s3.trans s4)
 clear b2 s3 s4
 try dsimp only
 refine Zu (Z0 (Zu6 λ x d H5 s5 D5=>Zw ?_))
 have b5:=b4.mono s5
 clear b4 s5
 have K5:DkB mg H5 (.ref x) d [] [] k:=⟨D5,Vb,λ y hy=>by simp at hy,k1,by omega⟩
 clear D5
 try dsimp only
 refine Zu (Ze5 (Zzq (Zb (Zd rfl (Zb (Zd rfl (Zh ⟨D,p,rfl,⟨_,SqL.of b5.names⟩,⟨_,SqT.of b5.book⟩,?_⟩)))))))
 refine Zyl (n:=B.length) (xs:=(ksAt B.length).map V.str) (ys:=xs) (by unfold ksAt; simp) hx (λ i σ H'=>Bes K H' l p D sc xs B/\∃ kvs,DkB mg H' (.ref x) d kvs (B.take i) k/\Z2 kvs=ksAt i/\∃ r5 r6,σ=[some (.ref l),some (.ref p),some (.ref D),some (.int cc),some (.ref x),r5,r6,none,none,none,none,none]) ⟨b5,[],K5,rfl,_,_,rfl⟩ (λ i σ H' _ z=>⟨SqL.of z.1.names,SqT.of z.1.book⟩) ?_ ?_
 · rintro i nv dv σ H5 t e1 e2 ⟨b5,kvs,K5,hk,r5,r6,rfl⟩ ht
   have hi:i<B.length:=by have:=(List.getElem?_eq_some_iff.mp e2).1; omega
   have en:nv=.str (nmAt i):=by
    rw [List.getElem?_map,Zoz hi] at e1
    exact (Option.some.inj e1).symm
   subst en
   obtain ⟨dd,hdd,rd⟩:=b5.reps.get e2
   rw [List.getElem?_map,List.getElem?_eq_getElem hi] at hdd
   cases hdd
   have sT:=Same.laid (o:=.tup [.str (nmAt i),dv]) ht
   have b6:=b5.mono sT
   have K6:=K5.mono sT
   have rd6:=Rep.mono sT _ _ rd
   have e6:=Zr (H:=H5) (a:=t) (o:=.tup [.str (nmAt i),dv])
   generalize upd H5 t (.tup [.str (nmAt i),dv])=H6 at b6 K6 rd6 e6 ⊢
   refine Zpc (SqT.of e6) rfl (Vf (Zw (Vf (Zw (Zjq ?_)))))
   try dsimp only
   have gi:=gd _ (List.getElem_mem hi)
   have lTi:=Hh (ps:=B[i].1) (as:=B[i].2) gi (by omega)
   have oki:=ok6 i (by omega)
   obtain ⟨_,_,l8⟩:=Je (Uv oki).2
   have l4:("put ":Str).length=4:=rfl
   have l1:(" ":Str).length=1:=rfl
   have tv0:TV (tOp Yn (tOp Yn (tC (.str "put ")) (Zc 5)) (tC (.str " "))) (("put ":Str)++nmAt i++(" ":Str)) [some (.ref l),some (.ref p),some (.ref D),some (.int cc),some (.ref x),some (.str (nmAt i)),some dv,none,none,none,none,none]:=Y7 (Y7 Qf (Xp rfl) (by omega)) Qf (by rw [PySem.Str.length_append]; omega)
   refine Yv (Xe (Zk (Zso (g:=B[i]) K6 rfl (by rw [List.length_take]; omega) oki (by rw [hk]; exact Zko (Z3l i (by omega))) gi (λ R kq=>Zk (tv0 _ _ (Z5 (Zb (Zd rfl (Zh ⟨_,rfl,k,B[i],rd6,gi,k1,by omega,λ H' s=>⟨_,_,rfl,rfl,Nat.le_trans (show (("put ":Str)++nmAt i++(" ":Str)).length+(Xd B[i].1 B[i].2).length<=1000 by rw [PySem.Str.length_append,PySem.Str.length_append]; omega) (by decide),kq H' s⟩⟩)))))) λ u H7 sb K7=>w_c (Zhw (Xc (Zf0 rfl (Ys ⟨b6.sb sb K6.dsk.kept,kvs++[(nmAt i,u)],?_,?_,_,_,rfl⟩)))))))
   · have e:B.take (i+1)=B.take i++[B[i]]:=by rw [List.take_add_one,List.getElem?_eq_getElem hi]; rfl
     rw [e]; exact K7
   · show Z2 (kvs++[(nmAt i,u)])=ksAt (i+1)
     rw [← Zsz,← hk]
     simp [Z2]
 rintro σ H6 ⟨b6,base,K6,hk,r5,r6,rfl⟩
 rw [List.take_length] at K6
 clear K5 b5
 try dsimp only
 have bl:base.length=B.length:=K6.len
 have ej:((xs.length:Int)-1).toNat=B.length-1:=by omega
 have gb:GoodBook 6 k B:=gB
 refine Zu (Z0 (Ye (Zb (Z5 (Zb (Zd rfl (Zb (w_c (Zb (Zk (Ye (Zb (Zd rfl (Zh (Vj (SqT.of b6.book) (w_c (Zo7 (Zh ⟨_,_,_,rfl,B,6,k,0,_,Gh b6.book b6.reps,gb,rfl,rfl,⟨by decide,by omega⟩,⟨by omega,by omega⟩,λ H7 s7=>?_⟩))))))))))))))))))
 rw [ej]
 refine Zh ⟨_,rfl,Zrh gb (by show 0<B.length; omega) (by omega),Zw ?_⟩
 have b7:=b6.mono s7
 have K7:=K6.mono s7
 clear b6 K6 s7 ej
 try dsimp only
 have hk0:KeysOk (Z2 base):=by rw [hk]; exact Z0p m1 n7
 obtain ⟨lv,lg,elv,rlv,glv⟩:=Zye b7.reps m1 gd
 refine Zu (Ze5 (Vi (Z5 (Zb (Zd rfl (Zb (Zd rfl (Zb (Zk (Zd rfl (Zxl (w_c (Zpa (Xx (v:=lv) (SqT.of b7.book) elv (Zh ⟨_,_,_,rfl,cc,D,base,B,k,lg,rfl,rfl,by rw [hk]; exact b7.names,hk0,⟨k1,by omega,m1,by omega,gd⟩,k1,kn,rlv,glv,λ qv vs H8 s8 h8 l8 c8=>⟨qv,rfl,.inl ⟨⟨_,SqL.of h8⟩,?_⟩⟩⟩)))))))))))))))
 have b8:=b7.mono s8
 have K8:=K7.mono s8
 clear b7 K7 s8
 refine Zq0 (K:=K) (a:=qv) (xs:=vs) (λ i σ' H'=>Same H8 H'/\∃ r8 r9,σ'=[some (.ref l),some (.ref p),some (.ref D),some (.int cc),some (.ref x),r5,r6,some (.str (Str.ofString (toString (Jd B (0:Int).toNat (B.length-1))))),r8,r9,none,none]) ⟨Same.refl _,_,_,rfl⟩ (λ i σ' H' _ z=>SqL.of (z.1 _ _ h8)) ?_ ?_
 · rintro i y σ' H' hy ⟨s,r8,r9,rfl⟩
   obtain ⟨cl,z,rk,rfl,hz,lz,wz⟩:=c8 y (List.mem_of_getElem? hy)
   refine Zzs (SqL.of (s _ _ hz)) rfl (Vf (Zw (Vf (Zw (Zjq ?_)))))
   try dsimp only
   have b9:=b8.mono s
   have K9:=K8.mono s
   refine Zu (Yv (Zo8 (Xe (Zk (Zcv rk K9.dsk K9.reps rfl (Xp rfl) lz wz λ H10 s10=>Zd rfl (Zhw (Xc (Zf0 rfl ?_))))))))
   have b10:=b9.mono s10
   have K10:=K9.mono s10
   refine Xe (Zk (Zxx K10 rfl (by rw [hk]; exact Zzh _ n7) λ H11 s11=>K1 (w_c ⟨rfl,Zb (Zd rfl (Zh ⟨_,D,ksAt B.length,rfl,rfl,SqL.of (s11 _ _ b10.names),by rw [U3]; exact Zzh _ n7,Zhw (Xc (Zf0 ?_ (Ys ?_)))⟩))⟩)))
   · unfold Vg
     rw [if_neg hk0.1,hk,U3]
   have b11:=b10.mono s11
   have K11:=K10.mono s11
   try dsimp only
   obtain ⟨i1,hi1⟩:∃ i1,i1=B.length-1:=⟨_,rfl⟩
   have lt1:i1<B.length:=by omega
   have ok0:=(Uv (ok6 0 (by decide))).2
   have ok1:=(Uv (ok6 i1 (by omega))).2
   obtain ⟨_,_,n8⟩:=Je ok1
   have l7:("cost a ":Str).length=7:=rfl
   have elast:atI ((ksAt B.length).map V.str) (-1)=some (.str (nmAt i1)):=by
    have e:ksAt B.length=ksAt i1++[nmAt i1]:=by rw [Zsz,show i1+1=B.length by omega]
    rw [e,List.map_append]
    exact Zjl _ _
   refine Yv (Xe (Zk (Zpx (m1:=nmAt 0) (m2:=nmAt i1) (j1:=0) (j2:=i1) K11 rfl m1 (by rw [hk]; exact Zoz (by omega)) (by rw [hk]; exact Zoz lt1) ok0 ok1 (λ R kq=>Zk (w_c (Zk (Zd rfl (Zxl (w_c (Zpa (Yo (v:=.str (nmAt i1)) (SqL.of b11.names) elast ⟨_,_,rfl,rfl,Nat.le_trans (show ("cost a ":Str).length+(nmAt i1).length<=1000 by omega) (by decide),?_⟩)))))))) λ H12 s12=>Zd rfl (Zhw (Xc (Zf0 (by rw [hi1]; rfl) (Ys ⟨((s.trans s10).trans s11).trans s12,_,_,rfl⟩)))))))
   have e:("cost a ":Str)++nmAt i1=("cost":Str)++sg 32++(nmAt 0++sg 32++nmAt i1):=by
    rw [Z32,show ("cost a ":Str)=("cost":Str)++sg 32++(("a":Str)++sg 32) by decide +kernel,Xf]
   rw [e]
   exact kq _ (Same.refl _)
 rintro σ' H9 ⟨s9,r8,r9,rfl⟩
 have b9:=b8.mono s9
 have K9:=K8.mono s9
 clear b8 K8 s9 h8 c8 rlv
 try dsimp only
 refine Zu (Z0 (Z5 (Zb (Zk (Zd rfl (w_c (Xx (v:=xs[0]) (SqT.of b9.book) at0 (Zh ⟨_,rfl,k,g,first b9,g0,k1,by omega,λ H10 s10=>Zw ?_⟩))))))))
 have b10:=b9.mono s10
 have K10:=K9.mono s10
 clear b9 K9 s10
 try dsimp only
 generalize Str.ofString (toString (Jd B (0:Int).toNat (B.length-1)))=due
 generalize eT:Xd g.1 g.2=T at aT lT ⊢
 have e8:(8:Int)-(xs.length:Int)=((8-B.length:Nat):Int):=by omega
 refine Zu (Ze5 (Zba (Zb (Zk (w_c (Ye (Zb (Zd rfl (Zh (Vj (SqT.of b10.book) (Zo7 (Zh ?_))))))))))))
 rw [e8]
 refine ⟨_,rfl,(Wc (by omega)).1,(Wc (by omega)).2,?_⟩
 rw [Int.toNat_natCast]
 refine Za3 (n:=8-B.length) (λ i σ H'=>Bes K H' l p D sc xs B/\∃ kvs,DkB mg H' (.ref x) d kvs (B++List.replicate i g) k/\Z2 kvs=ksAt B.length++newN.take i/\∃ r11,σ=[some (.ref l),some (.ref p),some (.ref D),some (.int cc),some (.ref x),r5,r6,some (.str due),r8,r9,some (.str T),r11]) ⟨b10,base,by simpa using K10,by simpa using hk,_,rfl⟩ ?_ ?_
 · rintro i σ H' hi ⟨b,kvs,Kd,hks,r11,rfl⟩
   have i7:i<7:=by omega
   obtain ⟨nm,enm⟩:∃ nm,newN[i]?=some nm:=⟨_,List.getElem?_eq_getElem (show i<newN.length from i7)⟩
   have ed:newN.getD i ""=nm:=by rw [List.getD,enm]; rfl
   have okm:=Z3j i i7
   have nom:=Z3k B.length n7 i i7
   have mom:=Z0l i i7
   rw [ed] at okm nom mom
   obtain ⟨_,_,n8⟩:=Je (Uv okm).2
   have l4:("put ":Str).length=4:=rfl
   have l1:(" ":Str).length=1:=rfl
   refine Zw (Yv (Xe (Zk (Zso (g:=g) Kd rfl (by rw [List.length_append,List.length_replicate]; omega) okm (by rw [hks]; exact Zko nom) g0 (λ R kq=>?_) λ u H7 sb K7=>w_c (Zhw (Xc (Zf0 rfl (Ys ⟨b.sb sb Kd.dsk.kept,kvs++[(nm,u)],?_,?_,_,rfl⟩))))))))
   · refine Zk (Zk (Zk (w_c (Zk (Jz (Zb (w_c (Zb (w_c (Zb (w_c (Zb (w_c (Zb (w_c (Zb (w_c (Zb (w_c (Zh ⟨by show 7<=sizeLine; decide,λ p5 hp5=>?_⟩))))))))))))))))))))
     have s5:=Same.laid (o:=.lst (newN.map V.str)) hp5
     refine Zd rfl (Yo (xs:=newN.map V.str) (v:=.str nm) (SqL.of Zr) (Xv (by omega) (by rw [List.getElem?_map,Int.toNat_natCast,enm]; rfl)) ⟨_,_,rfl,rfl,Nat.le_trans (show ("put ":Str).length+nm.length<=1000 by omega) (by decide),w_c ⟨_,_,rfl,rfl,Nat.le_trans (show (("put ":Str)++nm).length+(" ":Str).length<=1000 by rw [PySem.Str.length_append]; omega) (by decide),Zd rfl ⟨_,_,rfl,rfl,Nat.le_trans (show (("put ":Str)++nm++(" ":Str)).length+T.length<=1000 by rw [PySem.Str.length_append,PySem.Str.length_append]; omega) (by decide),?_⟩⟩⟩)
     rw [← eT]
     exact kq _ s5
   · rw [List.replicate_succ',← List.append_assoc]; exact K7
   · rw [← mom,← List.append_assoc,← hks]
     simp [Z2]
 rintro σ H11 ⟨b11,kvs,K11,hks,r11,rfl⟩
 clear b10 K10
 try dsimp only
 obtain ⟨ani,nni⟩:=Uv Z2i
 have l10:("put ninth ":Str).length=10:=rfl
 obtain ⟨gT,dT⟩:=Zcw g0 k1 (by omega)
 rw [eT] at gT dT
 have en:("put ninth ":Str)++T=("put ":Str)++("ninth":Str)++sg 32++T:=by rw [show ("put ninth ":Str)=("put ":Str)++("ninth":Str)++sg 32 by decide +kernel]
 refine Z4 (Ui (Zk (Zcv (z:=("put ninth ":Str)++T) .book K11.dsk K11.reps rfl (Y7 Qf (Xp rfl) (by omega)) (by rw [PySem.Str.length_append]; omega) ?_ λ H12 s12=>w_c (Zhx ⟨_,rfl,Zzj rfl ?_⟩))))
 · rw [en]
   refine Zqd (by rw [hks]; exact Zko (Z2j _ n7 _ (by omega))) ⟨ani,nni⟩ aT gT ?_
   have e:Qd (B++List.replicate (8-B.length) g++[Xn T])=.tuple ((B++List.replicate (8-B.length) g).map dayD++[dayD (Xn T)]):=by unfold Qd; rw [List.map_append]; rfl
   rw [e]
   exact Zxe (by rw [List.length_map,List.length_append,List.length_replicate]; omega)
 have b12:=b11.mono s12
 have K12:=K11.mono s12
 have ok0:=(Uv (ok6 0 (by decide))).2
 refine Zk (Zpx (m1:=nmAt 0) (m2:="new") (j1:=0) (j2:=B.length) K12 rfl (by rw [List.length_append]; omega) ?_ ?_ ok0 (Uv Zqm).2 (λ R kq=>?_) λ H13 s13=>?_)
 · rw [hks,List.getElem?_append_left (by rw [Zqs]; omega)]; exact Zoz (by omega)
 · rw [hks,List.getElem?_append_right (by rw [Zqs]; exact Nat.le_refl _),Zqs,Nat.sub_self,List.getElem?_take_of_lt (by omega)]; rfl
 · have e:("cost a new":Str)=("cost":Str)++sg 32++(nmAt 0++sg 32++("new":Str)):=by decide +kernel
   rw [e]
   exact w_c (kq _ (Same.refl _))
 have b13:=b12.mono s13
 refine Ye (Zb (Z5 (Zb (Zd rfl (Zb (w_c (Zb (w_c (Zh ⟨_,_,_,rfl,B,6,k,0,0,Gh b13.book b13.reps,gb,rfl,rfl,⟨by decide,by omega⟩,⟨by decide,by omega⟩,λ H14 s14=>Zh ⟨_,rfl,Zrh gb (by show 0<B.length; omega) (by show 0<B.length; omega),Zhx ?_⟩⟩))))))))) 
 rw [← eg,Zyt m1 (by omega)]
 rw [decide_eq_true (show decS (Jd B 0 0)=Str.ofString (toString (Jd B (0:Int).toNat (0:Int).toNat)) from rfl)]
 exact q H14
abbrev BdP (x q:Str) (st:Stmt) (ps:List Str):Prop:=∀ (kV doc pm:Value) (an:Option Addr) (cdv ct:Value) (us:List Value),us.length=ps.length->bindArgs (PySem.W.fnOf x q (Qy st) (Xw st) (Zq st) .none kV doc pm an cdv ct) ⟨us,[]⟩=pure (ps.zip us)
section
variable {P:Program} {w:World} {K:Fq} {mg:Str->Option Value} {base:Heap}
abbrev Zi2:Stmt:=top 11
abbrev Zc5:List Str:=["thing"]
theorem Zvi:FnScope ["thing"] Zc5 (Zq Zi2):=⟨rfl,rfl,rfl,by decide +kernel,rfl,by decide +kernel,by decide +kernel⟩
theorem Zww (M:Md K mg) (D:Df K mg "is_int" Zi2)  : Fn P w K mg base CX0 "is_int" 1 Zc5 (G8 K):=D.to (λ F =>
 F.ok (k:=0) Zvi (λ vs _ _ _ h=>Yr h) (λ cdv A outer s H vs Q E hr h=>by
  have hu:=hr.units
  obtain ⟨a0,rfl,h⟩:=h
  refine ⟨Zgu K,?_,Zvk h⟩
  refine Zn ?_
  exact (Zx (Uu (Yc call_isinst (by rfl) M.b_isinstance Xz (Ze (pv 0) (Ze (Zkm M.b_int Zcs) Zf))) (Us (Zvu (Yc call_isinst (by rfl) M.b_isinstance Xz (Ze (pv 0) (Ze (Zkm M.b_bool Z08) Zf))))))))) (λ _ _ _ _ _ _ us hl=>match us,hl with | [_],_=>rfl)
abbrev Zfl:Stmt:=top 30
abbrev W6:List Str:=["thing","shortest","longest"]
theorem Zrx:FnScope ["thing","shortest","longest"] W6 (Zq Zfl):=⟨rfl,rfl,rfl,by decide +kernel,rfl,by decide +kernel,by decide +kernel⟩
theorem Zse (M:Md K mg) (D:Df K mg "is_tuple" Zfl)  : Fn P w K mg base CX0 "is_tuple" 1 W6 (Q9 K):=D.to (λ F =>
 F.ok (k:=0) Zrx (λ vs _ _ _ h=>Jx h) (λ cdv A outer s H vs Q E hr h=>by
  have hu:=hr.units
  obtain ⟨a0,a1,a2,rfl,h⟩:=h
  refine ⟨Zdh K,?_,Zr3 h⟩
  refine Zn ?_
  exact (Zx (Uu (Yc call_isinst (by rfl) M.b_isinstance Xz (Ze (pv 0) (Ze (Zkm M.b_tuple U0) Zf))) (Us (Zfv Hd Hd (pv 1) (Yc (call_lenU) (by rfl) M.b_len Yz (Ze (pv 0) Zf)) (pv 2))))))) (λ _ _ _ _ _ _ us hl=>match us,hl with | [_,_,_],_=>rfl)
abbrev Zfm:Stmt:=top 31
abbrev Zd6:List Str:=["thing"]
theorem Zry:FnScope ["thing"] Zd6 (Zq Zfm):=⟨rfl,rfl,rfl,by decide +kernel,rfl,by decide +kernel,by decide +kernel⟩
theorem Zsf (M:Md K mg) (D:Df K mg "is_price" Zfm) (G_is_int:Fn P w K mg base CX0 "is_int" 1 Zc5 (G8 K)):Fn P w K mg base CX0 "is_price" 2 Zd6 (Zdn K):=D.to (λ F =>
 F.ok (k:=1) Zry (λ vs _ _ _ h=>Yr h) (λ cdv A outer s H vs Q E hr h=>by
  have hu:=hr.units
  obtain ⟨a0,rfl,h⟩:=h
  refine ⟨Zdi K,?_,Zr4 h⟩
  refine Zn ?_
  exact (Zx (Uu (Yd G_is_int (hr.mono (by decide)) (by rfl) Ym (Ze (pv 0) Zf)) (Us (Zfv Hd Hd Zj (pv 0) (Gx M.c_HIGHEST_PRICE))))))) (λ _ _ _ _ _ _ us hl=>match us,hl with | [_],_=>rfl)
abbrev Zdu:Stmt:=top 32
abbrev Zch:List Str:=["thing"]
theorem Zpp:FnScope ["thing"] Zch (Zq Zdu):=⟨rfl,rfl,rfl,by decide +kernel,rfl,by decide +kernel,by decide +kernel⟩
theorem Zq4 (M:Md K mg) (D:Df K mg "is_amount" Zdu) (G_is_int:Fn P w K mg base CX0 "is_int" 1 Zc5 (G8 K)):Fn P w K mg base CX0 "is_amount" 2 Zch (Zbt K):=D.to (λ F =>
 F.ok (k:=1) Zpp (λ vs _ _ _ h=>Yr h) (λ cdv A outer s H vs Q E hr h=>by
  have hu:=hr.units
  obtain ⟨a0,rfl,h⟩:=h
  refine ⟨Zbi K,?_,Zp3 h⟩
  refine Zn ?_
  exact (Zx (Uu (Yd G_is_int (hr.mono (by decide)) (by rfl) Ym (Ze (pv 0) Zf)) (Us (Zfv Hd Hd Zj (pv 0) (Gx M.c_HIGHEST_AMOUNT))))))) (λ _ _ _ _ _ _ us hl=>match us,hl with | [_],_=>rfl)
abbrev Zb4:Stmt:=top 33
abbrev Zap:List Str:=["thing"]
theorem Znx:FnScope ["thing"] Zap (Zq Zb4):=⟨rfl,rfl,rfl,by decide +kernel,rfl,by decide +kernel,by decide +kernel⟩
theorem Zoi (M:Md K mg) (D:Df K mg "are_prices" Zb4) (G_is_tuple:Fn P w K mg base CX0 "is_tuple" 1 W6 (Q9 K)) (G_is_price:Fn P w K mg base CX0 "is_price" 2 Zd6 (Zdn K)):Fn P w K mg base CX0 "are_prices" 3 Zap (Eu K):=D.to (λ F =>
 F.ok (k:=2) Znx (λ vs _ _ _ h=>Yr h) (λ cdv A outer s H vs Q E hr h=>by
  have hu:=hr.units
  obtain ⟨a0,rfl,h⟩:=h
  refine ⟨En K,?_,Zn5 h⟩
  refine Zn ?_
  exact (Zx (Uu (Yd G_is_tuple (hr.mono (by decide)) (by rfl) Ym (Ze (pv 0) (Ze Zj (Ze (Gx M.c_MOST_WARES) Zf)))) (Us (Yc (call_allU rfl) (by rfl) M.b_all Zct (Ze (X4 (N:=["price"]) (l:=[none]) rfl ⟨rfl,by decide +kernel,by decide +kernel,by first | decide +kernel | rfl,  True.intro,by decide +kernel⟩ (pi_seq (pv 0)) (λ _ _ _ _ _=>(Yh (i:=0) (show List.Nodup (["price"]:List Str) by decide +kernel) rfl (Or.inl rfl))) (λ _ _ _ _ _=>Xh) (λ _ _ _ _ _=>(Yd G_is_price (hr.mono (by decide)) (by rfl) Ym (Ze (pv 0) Zf)))) Zf))))))) (λ _ _ _ _ _ _ us hl=>match us,hl with | [_],_=>rfl)
abbrev Zaf:Stmt:=top 34
abbrev Gq:List Str:=["thing"]
theorem Zl1:FnScope ["thing"] Gq (Zq Zaf):=⟨rfl,rfl,rfl,by decide +kernel,rfl,by decide +kernel,by decide +kernel⟩
theorem Zmv (M:Md K mg) (D:Df K mg "are_amounts" Zaf) (G_is_tuple:Fn P w K mg base CX0 "is_tuple" 1 W6 (Q9 K)) (G_is_amount:Fn P w K mg base CX0 "is_amount" 2 Zch (Zbt K)):Fn P w K mg base CX0 "are_amounts" 3 Gq (Ht K):=D.to (λ F =>
 F.ok (k:=2) Zl1 (λ vs _ _ _ h=>Yr h) (λ cdv A outer s H vs Q E hr h=>by
  have hu:=hr.units
  obtain ⟨a0,rfl,h⟩:=h
  refine ⟨Hl K,?_,Zmc h⟩
  refine Zm ?_ (Zn ?_)
  · exact (Yt (PW.pt (Zkh (Wq (Wd (Yd G_is_tuple (hr.mono (by decide)) (by rfl) Ym (Ze (pv 0) (Ze Zj (Ze (Gx M.c_MOST_WARES) Zf)))) (λ _=>rfl))) (Zhj (Wq (Wd (Yc (call_allU rfl) (by rfl) M.b_all Zct (Ze (X4 (N:=["amount"]) (l:=[none]) rfl ⟨rfl,by decide +kernel,by decide +kernel,by first | decide +kernel | rfl,  True.intro,by decide +kernel⟩ (pi_seq (pv 0)) (λ _ _ _ _ _=>(Yh (i:=0) (show List.Nodup (["amount"]:List Str) by decide +kernel) rfl (Or.inl rfl))) (λ _ _ _ _ _=>Xh) (λ _ _ _ _ _=>(Yd G_is_amount (hr.mono (by decide)) (by rfl) Ym (Ze (pv 0) Zf)))) Zf)) (λ _=>rfl)))))) (Zn (Zx Kz)) Z9)
  · exact (Zx (Yc (call_anyU rfl) (by rfl) M.b_any Z2y (Ze (X4 (N:=["amount"]) (l:=[none]) rfl ⟨rfl,by decide +kernel,by decide +kernel,by first | decide +kernel | rfl,  True.intro,by decide +kernel⟩ (pi_seq (pv 0)) (λ _ _ _ _ _=>(Yh (i:=0) (show List.Nodup (["amount"]:List Str) by decide +kernel) rfl (Or.inl rfl))) (λ _ _ _ _ _=>Xh) (λ _ _ _ _ _=>(Qv Zt7 (pv 0) Zj (Yj _)))) Zf))))) (λ _ _ _ _ _ _ us hl=>match us,hl with | [_],_=>rfl)
abbrev Zi3:Stmt:=top 35
abbrev Zc6:List Str:=["thing"]
theorem Zg1:FnScope ["thing","prices","amounts"] Zc6 (Zq Zi3):=⟨rfl,rfl,rfl,by decide +kernel,rfl,by decide +kernel,by decide +kernel⟩
theorem Zwx (M:Md K mg) (D:Df K mg "is_day" Zi3) (G_is_tuple:Fn P w K mg base CX0 "is_tuple" 1 W6 (Q9 K)) (G_are_prices:Fn P w K mg base CX0 "are_prices" 3 Zap (Eu K)) (G_are_amounts:Fn P w K mg base CX0 "are_amounts" 3 Gq (Ht K)):Fn P w K mg base CX0 "is_day" 4 Zc6 (G9 K):=D.to (λ F =>
 F.ok (k:=3) Zg1 (λ vs _ _ _ h=>Yr h) (λ cdv A outer s H vs Q E hr h=>by
  have hu:=hr.units
  obtain ⟨a0,rfl,h⟩:=h
  refine ⟨Zgv K,?_,Zvl h⟩
  refine Zm ?_ (Zm ?_ (Zm ?_ (Zn ?_)))
  · exact (Yt (Wq (Wd (Yd G_is_tuple (hr.mono (by decide)) (by rfl) Ym (Ze (pv 0) (Ze Zj (Ze Zj Zf)))) (λ _=>rfl))) (Zn (Zx Kz)) Z9)
  · exact (Z8 (i:=1) Zg1.nd rfl (Or.inl rfl) (Z3 Zy (pv 0) Zj (λ _ _=>rfl)))
  · exact (Z8 (i:=2) Zg1.nd rfl (Or.inl rfl) (Z3 Zy (pv 0) Zj (λ _ _=>rfl)))
  · exact (Zx (Uu (Yd G_are_prices (hr.mono (by decide)) (by rfl) Ym (Ze (pv 1) Zf)) (Uu (Yd G_are_amounts (hr.mono (by decide)) (by rfl) Ym (Ze (pv 2) Zf)) (Us (Qv (op_eqU hu) (Yc (call_lenU) (by rfl) M.b_len Yz (Ze (pv 1) Zf)) (Yc (call_lenU) (by rfl) M.b_len Yz (Ze (pv 2) Zf)) (Yj _)))))))) (λ _ _ _ _ _ _ us hl=>match us,hl with | [_],_=>rfl)
abbrev Zhg:Stmt:=top 36
abbrev Zft:List Str:=["thing"]
theorem Zj1:FnScope ["thing","wares"] Zft (Zq Zhg):=⟨rfl,rfl,rfl,by decide +kernel,rfl,by decide +kernel,by decide +kernel⟩
theorem Zul (M:Md K mg) (D:Df K mg "is_book" Zhg) (G_is_tuple:Fn P w K mg base CX0 "is_tuple" 1 W6 (Q9 K)) (G_is_day:Fn P w K mg base CX0 "is_day" 4 Zc6 (G9 K)):Fn P w K mg base CX0 "is_book" 5 Zft (Zff K):=D.to (λ F =>
 F.ok (k:=4) Zj1 (λ vs _ _ _ h=>Yr h) (λ cdv A outer s H vs Q E hr h=>by
  have hu:=hr.units
  obtain ⟨a0,rfl,h⟩:=h
  refine ⟨Zfb K,?_,Ztz h⟩
  refine Zm ?_ (Zm ?_ (Zn ?_))
  · exact (Yt (PW.pt (Zkh (Wq (Wd (Yd G_is_tuple (hr.mono (by decide)) (by rfl) Ym (Ze (pv 0) (Ze Zj (Ze (Gx M.c_MOST_DAYS) Zf)))) (λ _=>rfl))) (Zhj (Wq (Wd (Yc (call_allU rfl) (by rfl) M.b_all Zct (Ze (X4 (N:=["day"]) (l:=[none]) rfl ⟨rfl,by decide +kernel,by decide +kernel,by first | decide +kernel | rfl,  True.intro,by decide +kernel⟩ (pi_seq (pv 0)) (λ _ _ _ _ _=>(Yh (i:=0) (show List.Nodup (["day"]:List Str) by decide +kernel) rfl (Or.inl rfl))) (λ _ _ _ _ _=>Xh) (λ _ _ _ _ _=>(Yd G_is_day (hr.mono (by decide)) (by rfl) Ym (Ze (pv 0) Zf)))) Zf)) (λ _=>rfl)))))) (Zn (Zx Kz)) Z9)
  · exact (Z8 (i:=1) Zj1.nd rfl (Or.inr rfl) (Yc (call_lenU) (by rfl) M.b_len Yz (Ze (Z3 Zy (Z3 Zy (pv 0) Zj (λ _ _=>rfl)) Zj (λ _ _=>rfl)) Zf)))
  · exact (Zx (Yc (call_allU rfl) (by rfl) M.b_all Zct (Ze (X4 (N:=["day","wares"]) (l:=[none,some 1]) rfl ⟨rfl,by decide +kernel,by decide +kernel,by first | decide +kernel | rfl,⟨⟨rfl,Or.inl rfl,rfl⟩,True.intro⟩,by decide +kernel⟩ (pi_seq (pv 0)) (λ _ _ _ _ _=>(Yh (i:=0) (show List.Nodup (["day","wares"]:List Str) by decide +kernel) rfl (Or.inl rfl))) (λ _ _ _ _ _=>Xh) (λ _ _ _ _ _=>(Qv (op_eqU hu) (Yc (call_lenU) (by rfl) M.b_len Yz (Ze (Z3 Zy (pv 0) Zj (λ _ _=>rfl)) Zf)) (pv 1) (Yj _)))) Zf))))) (λ _ _ _ _ _ _ us hl=>match us,hl with | [_],_=>rfl)
abbrev Zl7:Stmt:=top 37
abbrev Zi6:List Str:=["thing"]
theorem Zxw:FnScope ["thing"] Zi6 (Zq Zl7):=⟨rfl,rfl,rfl,by decide +kernel,rfl,by decide +kernel,by decide +kernel⟩
theorem Zym (M:Md K mg) (D:Df K mg "check" Zl7) (G_is_book:Fn P w K mg base CX0 "is_book" 5 Zft (Zff K)):Fn P w K mg base (CXr P w base) "check" 6 Zi6 (Ziy K mg):=D.to (λ F =>
 F.okR (k:=5) Zxw (λ vs _ _ _ h=>Yr h) (λ cdv A outer s H vs Q E hr h=>by
  have hu:=hr.units
  obtain ⟨a0,rfl,h⟩:=h
  refine ⟨Ziv K mg E,?_,Zxz M h⟩
  refine Zm ?_ (Zn ?_)
  · exact (Yt (Wq (Wd (Yd G_is_book (hr.mono (by decide)) (by rfl) Ym (Ze (pv 0) Zf)) (λ _=>rfl))) (Zn (Wx Za1 rfl M.x_NoBook (by rfl) (Ze Zi Zf))) Z9)
  · exact (Zx Kz))) (λ _ _ _ _ _ _ us hl=>match us,hl with | [_],_=>rfl)
abbrev Zdv:Stmt:=top 38
abbrev Zci:List Str:=["book","day"]
theorem Zpq:FnScope ["book","day"] Zci (Zq Zdv):=⟨rfl,rfl,rfl,by decide +kernel,rfl,by decide +kernel,by decide +kernel⟩
theorem Zq5 (M:Md K mg) (D:Df K mg "check_day" Zdv)  : Fn P w K mg base (CXr P w base) "check_day" 1 Zci (Vw K mg):=D.to (λ F =>
 F.okR (k:=0) Zpq (λ vs _ _ _ h=>Q5 h) (λ cdv A outer s H vs Q E hr h=>by
  have hu:=hr.units
  obtain ⟨a0,a1,rfl,h⟩:=h
  refine ⟨Vm K mg E,?_,Zcb M h⟩
  refine Zn ?_
  exact (Yt (Wq (Zqe Hd Zt6 Zj (pv 1) (Yc (call_lenU) (by rfl) M.b_len Yz (Ze (pv 0) Zf)))) (Zn (Wx Za1 rfl M.x_NoDay (by rfl) (Ze Zi Zf))) Z9))) (λ _ _ _ _ _ _ us hl=>match us,hl with | [_,_],_=>rfl)
abbrev Zhh:Stmt:=top 39
abbrev Zfu:List Str:=["prices","amounts"]
theorem Ztw:FnScope ["prices","amounts"] Zfu (Zq Zhh):=⟨rfl,rfl,rfl,by decide +kernel,rfl,by decide +kernel,by decide +kernel⟩
theorem Zum (M:Md K mg) (D:Df K mg "cost_at" Zhh)  : Fn P w K mg base CX0 "cost_at" 1 Zfu (Zfg K):=D.to (λ F =>
 F.ok (k:=0) Ztw (λ vs _ _ _ h=>Q5 h) (λ cdv A outer s H vs Q E hr h=>by
  have hu:=hr.units
  obtain ⟨a0,a1,rfl,h⟩:=h
  refine ⟨Zfc K,?_,Zt0 h⟩
  refine Zn ?_
  exact (Zx (Yc (call_sumU rfl) (by rfl) M.b_sum Zlk (Ze (X4 (N:=["price","amount"]) (l:=[none,none]) rfl ⟨rfl,by decide +kernel,by decide +kernel,by first | decide +kernel | rfl,  True.intro,by decide +kernel⟩ (Zm2 (by rfl) M.b_zip (Ze (pv 0) (Ze (pv 1) Zf))) (λ _ _ _ _ _=>(Zkk rfl (Wg (Yh (i:=0) (show List.Nodup (["price","amount"]:List Str) by decide +kernel) rfl (Or.inl rfl)) (Wg (Yh (i:=1) (show List.Nodup (["price","amount"]:List Str) by decide +kernel) rfl (Or.inl rfl)) Zeo)))) (λ _ _ _ _ _=>Xh) (λ _ _ _ _ _=>(Zo op_mulU (pv 0) (pv 1)))) Zf))))) (λ _ _ _ _ _ _ us hl=>match us,hl with | [_,_],_=>rfl)
abbrev Zpy:Stmt:=top 40
abbrev Zmn:List Str:=["book","day","other"]
theorem Zz2:FnScope ["book","day","other"] Zmn (Zq Zpy):=⟨rfl,rfl,rfl,by decide +kernel,rfl,by decide +kernel,by decide +kernel⟩
theorem Z0v (M:Md K mg) (D:Df K mg "cost" Zpy) (G_check_day:Fn P w K mg base (CXr P w base) "check_day" 1 Zci (Vw K mg)) (G_cost_at:Fn P w K mg base CX0 "cost_at" 1 Zfu (Zfg K)):Fn P w K mg base (CXr P w base) "cost" 2 Zmn (Zlz K mg):=D.to (λ F =>
 F.okR (k:=1) Zz2 (λ vs _ _ _ h=>Jx h) (λ cdv A outer s H vs Q E hr h=>by
  have hu:=hr.units
  obtain ⟨a0,a1,a2,rfl,h⟩:=h
  refine ⟨Zh0 K mg E,?_,Zmb M h⟩
  refine Zm ?_ (Zm ?_ (Zn ?_))
  · exact (Q7 (Yd G_check_day (hr.mono (by decide)) (by rfl) Xl (Ze (pv 0) (Ze (pv 1) Zf))))
  · exact (Q7 (Yd G_check_day (hr.mono (by decide)) (by rfl) Xl (Ze (pv 0) (Ze (pv 2) Zf))))
  · exact (Zx (Yd G_cost_at (hr.mono (by decide)) (by rfl) Ym (Ze (Z3 Zy (Z3 Zy (pv 0) (pv 1) (λ _ _=>rfl)) Zj (λ _ _=>rfl)) (Ze (Z3 Zy (Z3 Zy (pv 0) (pv 2) (λ _ _=>rfl)) Zj (λ _ _=>rfl)) Zf)))))) (λ _ _ _ _ _ _ us hl=>match us,hl with | [_,_,_],_=>rfl)
abbrev Zhf:Stmt:=top 107
abbrev Zfs:List Str:=["text"]
theorem Ztv:FnScope ["text"] Zfs (Zq Zhf):=⟨rfl,rfl,rfl,by decide +kernel,rfl,by decide +kernel,by decide +kernel⟩
theorem Zuk (M:Md K mg) (D:Df K mg "is_name" Zhf)  : Fn P w K mg base CX0 "is_name" 1 Zfs (Zfe K):=D.to (λ F =>
 F.ok (k:=0) Ztv (λ vs _ _ _ h=>Yr h) (λ cdv A outer s H vs Q E hr h=>by
  have hu:=hr.units
  obtain ⟨a0,rfl,h⟩:=h
  refine ⟨Zfa K,?_,Zty h⟩
  refine Zn ?_
  exact (Zx (Uu (Zfv Hd Hd Zj (Yc (call_lenU) (by rfl) M.b_len Yz (Ze (pv 0) Zf)) (Gx M.c_LONGEST_NAME)) (Us (Yc (call_allU rfl) (by rfl) M.b_all Zct (Ze (X4 (N:=["letter"]) (l:=[none]) rfl ⟨rfl,by decide +kernel,by decide +kernel,by first | decide +kernel | rfl,  True.intro,by decide +kernel⟩ (Zvs (pv 0)) (λ _ _ _ _ _=>(Yh (i:=0) (show List.Nodup (["letter"]:List Str) by decide +kernel) rfl (Or.inl rfl))) (λ _ _ _ _ _=>Xh) (λ _ _ _ _ _=>(Qv Zv0 (pv 0) (Zmo M.c_LETTERS) (by with_unfolding_all rfl)))) Zf))))))) (λ _ _ _ _ _ _ us hl=>match us,hl with | [_],_=>rfl)
abbrev Zb3:Stmt:=top 108
abbrev Ky:List Str:=["text"]
theorem Znw:FnScope ["text"] Ky (Zq Zb3):=⟨rfl,rfl,rfl,by decide +kernel,rfl,by decide +kernel,by decide +kernel⟩
theorem Zoh (M:Md K mg) (D:Df K mg "check_name" Zb3) (G_is_name:Fn P w K mg base CX0 "is_name" 1 Zfs (Zfe K)):Fn P w K mg base (CXr P w base) "check_name" 2 Ky (W0 K mg):=D.to (λ F =>
 F.okR (k:=1) Znw (λ vs _ _ _ h=>Yr h) (λ cdv A outer s H vs Q E hr h=>by
  have hu:=hr.units
  obtain ⟨a0,rfl,h⟩:=h
  refine ⟨Em K mg E,?_,Zn4 M h⟩
  refine Zn ?_
  exact (Yt (Wq (Wd (Yd G_is_name (hr.mono (by decide)) (by rfl) Ym (Ze (pv 0) Zf)) (λ _=>rfl))) (Zn (Wx Za1 rfl M.x_NoName (by rfl) (Ze Zi Zf))) Z9))) (λ _ _ _ _ _ _ us hl=>match us,hl with | [_],_=>rfl)
abbrev Zaj:Stmt:=Qw (top 109) 0
abbrev Gv:List Str:=["self"]
theorem Zl4:FnScope ["self"] Gv (Zq Zaj):=⟨rfl,rfl,rfl,by decide +kernel,rfl,by decide +kernel,by decide +kernel⟩
theorem Zmz (M:Md K mg) (D:DfM K (clsA mg "Ledger") "__init__" "Ledger.__init__" Zaj)  : FnM P w K mg base CX0 (clsA mg "Ledger") "__init__" 1 Gv (Hw K mg):=D.to (λ F =>
 F.ok (k:=0) Zl4 (λ vs _ _ _ h=>Yr h) (λ cdv A outer s H vs Q E hr h=>by
  have hu:=hr.units
  obtain ⟨a0,rfl,h⟩:=h
  refine ⟨Hq K mg,?_,Zmg M h⟩
  refine Zn ?_
  exact (Zvq (pv 0) Z0b rfl))) (λ _ _ _ _ _ _ us hl=>match us,hl with | [_],_=>rfl)
abbrev Zb8:Stmt:=Qw (top 109) 1
abbrev Zat:List Str:=["self","name","prices","amounts"]
theorem Zf7:FnScope ["self","name","prices","amounts","day"] Zat (Zq Zb8):=⟨rfl,rfl,rfl,by decide +kernel,rfl,by decide +kernel,by decide +kernel⟩
theorem Zom (M:Md K mg) (D:DfM K (clsA mg "Ledger") "put" "Ledger.put" Zb8) (G_check:Fn P w K mg base (CXr P w base) "check" 6 Zi6 (Ziy K mg)) (G_check_name:Fn P w K mg base (CXr P w base) "check_name" 2 Ky (W0 K mg)):FnM P w K mg base (CXr P w base) (clsA mg "Ledger") "put" 7 Zat (Ez K mg):=D.to (λ F =>
 F.okR (k:=6) Zf7 (λ vs _ _ _ h=>Zsn h) (λ cdv A outer s H vs Q E hr h=>by
  have hu:=hr.units
  obtain ⟨a0,a1,a2,a3,rfl,h⟩:=h
  refine ⟨Es K mg E,?_,Zn9 M h⟩
  refine Zm ?_ (Zm ?_ (Zm ?_ (Zm ?_ (Zn ?_))))
  · exact (Q7 (Yd G_check_name (hr.mono (by decide)) (by rfl) Xl (Ze (pv 1) Zf)))
  · exact (Yt (Zen (Z17 (hu1 hu) (pv 1) (Ut (pv 0) rfl)) (by with_unfolding_all rfl)) (Zn (Wx Za1 rfl M.x_Twice (by rfl) (Ze Zi Zf))) Z9)
  · exact (Z8 (i:=4) Zf7.nd rfl (Or.inl rfl) (Eg (Ze (pv 2) (Ze (pv 3) Zf))))
  · exact (Q7 (Yd G_check (hr.mono (by decide)) (by rfl) Xl (Ze (Zo op_addU (Qt (Znm rfl) (by rfl) M.b_tuple U0 (Ze (Zqj (Ut (pv 0) rfl)) Zf)) (Eg (Ze (pv 4) Zf))) Zf)))
  · exact (Zh4 (hu1 hu) (Ut (pv 0) rfl) (pv 1) (pv 4) rfl))) (λ _ _ _ _ _ _ us hl=>match us,hl with | [_,_,_,_],_=>rfl)
abbrev Jw:Stmt:=Qw (top 109) 3
abbrev Qo:List Str:=["self","name"]
theorem Zbx:FnScope ["self","name"] Qo (Zq Jw):=⟨rfl,rfl,rfl,by decide +kernel,rfl,by decide +kernel,by decide +kernel⟩
theorem Zcr (M:Md K mg) (D:DfM K (clsA mg "Ledger") "check_standing" "Ledger.check_standing" Jw)  : FnM P w K mg base (CXr P w base) (clsA mg "Ledger") "check_standing" 1 Qo (Xy K mg):=D.to (λ F =>
 F.okR (k:=0) Zbx (λ vs _ _ _ h=>Q5 h) (λ cdv A outer s H vs Q E hr h=>by
  have hu:=hr.units
  obtain ⟨a0,a1,rfl,h⟩:=h
  refine ⟨Jl K mg E,?_,Zcd M h⟩
  refine Zn ?_
  exact (Yt (Zen (Zvx (hu1 hu) (pv 1) (Ut (pv 0) rfl)) (by with_unfolding_all rfl)) (Zn (Wx Za1 rfl M.x_NoName (by rfl) (Ze Zi Zf))) Z9))) (λ _ _ _ _ _ _ us hl=>match us,hl with | [_,_],_=>rfl)
abbrev Zai:Stmt:=Qw (top 109) 2
abbrev Gu:List Str:=["self","name"]
theorem Zl3:FnScope ["self","name"] Gu (Zq Zai):=⟨rfl,rfl,rfl,by decide +kernel,rfl,by decide +kernel,by decide +kernel⟩
theorem Zmy (M:Md K mg) (D:DfM K (clsA mg "Ledger") "take" "Ledger.take" Zai) (G_Ledger_check_standing:FnM P w K mg base (CXr P w base) (clsA mg "Ledger") "check_standing" 1 Qo (Xy K mg)):FnM P w K mg base (CXr P w base) (clsA mg "Ledger") "take" 2 Gu (Hv K mg):=D.to (λ F =>
 F.okR (k:=1) Zl3 (λ vs _ _ _ h=>Q5 h) (λ cdv A outer s H vs Q E hr h=>by
  have hu:=hr.units
  obtain ⟨a0,a1,rfl,h⟩:=h
  refine ⟨Ho K mg E,?_,Zmf M h⟩
  refine Zm ?_ (Zn ?_)
  · exact (Q7 (Qi M.o_Ledger G_Ledger_check_standing (hr.mono (by decide)) Xl (pv 0) (Ze (pv 1) Zf)))
  · exact (Q7 (Zx7 (Ut (pv 0) rfl) (pv 1) (Z3t rfl rfl rfl))))) (λ _ _ _ _ _ _ us hl=>match us,hl with | [_,_],_=>rfl)
abbrev Gg:Stmt:=Qw (top 109) 4
abbrev Ug:List Str:=["self"]
theorem Zj2:FnScope ["self"] Ug (Zq Gg):=⟨rfl,rfl,rfl,by decide +kernel,rfl,by decide +kernel,by decide +kernel⟩
theorem Zla (M:Md K mg) (D:DfM K (clsA mg "Ledger") "names" "Ledger.names" Gg)  : FnM P w K mg base CX0 (clsA mg "Ledger") "names" 1 Ug (J3 K mg):=D.to (λ F =>
 F.ok (k:=0) Zj2 (λ vs _ _ _ h=>Yr h) (λ cdv A outer s H vs Q E hr h=>by
  have hu:=hr.units
  obtain ⟨a0,rfl,h⟩:=h
  refine ⟨Vs K mg,?_,Zke M h⟩
  refine Zn ?_
  exact (Zx (Qt (Zus rfl) (by rfl) M.b_list Z07 (Ze (Ut (pv 0) rfl) Zf))))) (λ _ _ _ _ _ _ us hl=>match us,hl with | [_],_=>rfl)
abbrev Zal:Stmt:=Qw (top 109) 5
abbrev Qh:List Str:=["self"]
theorem Zl5:FnScope ["self"] Qh (Zq Zal):=⟨rfl,rfl,rfl,by decide +kernel,rfl,by decide +kernel,by decide +kernel⟩
theorem Zm1 (M:Md K mg) (D:DfM K (clsA mg "Ledger") "book" "Ledger.book" Zal)  : FnM P w K mg base (CXr P w base) (clsA mg "Ledger") "book" 1 Qh (Yx K mg):=D.to (λ F =>
 F.okR (k:=0) Zl5 (λ vs _ _ _ h=>Yr h) (λ cdv A outer s H vs Q E hr h=>by
  have hu:=hr.units
  obtain ⟨a0,rfl,h⟩:=h
  refine ⟨Hs K mg E,?_,Zmi M h⟩
  refine Zm ?_ (Zn ?_)
  · exact (Yt (Yu (op_eqU hu) (Yc Zxa (by rfl) M.b_len Yz (Ze (Ut (pv 0) rfl) Zf)) Zj (Yj _)) (Zn (Wx Za1 rfl M.x_NoBook (by rfl) (Ze Zi Zf))) Z9)
  · exact (Zx (Qt (Znm rfl) (by rfl) M.b_tuple U0 (Ze (Zqj (Ut (pv 0) rfl)) Zf))))) (λ _ _ _ _ _ _ us hl=>match us,hl with | [_],_=>rfl)
abbrev Ur:Stmt:=Qw (top 109) 6
abbrev Jv:List Str:=["self","name"]
theorem Zgi:FnScope ["self","name"] Jv (Zq Ur):=⟨rfl,rfl,rfl,by decide +kernel,rfl,by decide +kernel,by decide +kernel⟩
theorem Zgm (M:Md K mg) (D:DfM K (clsA mg "Ledger") "number_of" "Ledger.number_of" Ur) (G_Ledger_check_standing:FnM P w K mg base (CXr P w base) (clsA mg "Ledger") "check_standing" 1 Qo (Xy K mg)) (G_Ledger_names:FnM P w K mg base CX0 (clsA mg "Ledger") "names" 1 Ug (J3 K mg)):FnM P w K mg base (CXr P w base) (clsA mg "Ledger") "number_of" 2 Jv (Xr K mg):=D.to (λ F =>
 F.okR (k:=1) Zgi (λ vs _ _ _ h=>Q5 h) (λ cdv A outer s H vs Q E hr h=>by
  have hu:=hr.units
  obtain ⟨a0,a1,rfl,h⟩:=h
  refine ⟨W9 K mg E,?_,Zgk M h⟩
  refine Zm ?_ (Zn ?_)
  · exact (Q7 (Qi M.o_Ledger G_Ledger_check_standing (hr.mono (by decide)) Xl (pv 0) (Ze (pv 1) Zf)))
  · exact (Zx (We PySem.F.plainAttrs_list PySem.F.slot_list_index PySem.F.type_list_index Zv6 (Jr M.o_Ledger G_Ledger_names (hr.mono (by decide)) Ym (pv 0)) (Ze (pv 1) Zf))))) (λ _ _ _ _ _ _ us hl=>match us,hl with | [_,_],_=>rfl)
abbrev Zav:Stmt:=Qw (top 109) 7
abbrev Ec:List Str:=["self","days"]
theorem Zhq (M:Md K mg) (D:DfM K (clsA mg "Ledger") "names_of" "Ledger.names_of" Zav):FnM P w K mg base CX0 (clsA mg "Ledger") "names_of" 2 Ec spNo:=D.to (λ F=>FnOk.no) (λ _ _ _ _ _ _ us hl=>match us,hl with | [_,_],_=>rfl)
abbrev Zak:Stmt:=Qw (top 109) 8
abbrev Gw:List Str:=["self","name","other"]
theorem Hy:FnScope ["self","name","other","day","another"] Gw (Zq Zak):=⟨rfl,rfl,rfl,by decide +kernel,rfl,by decide +kernel,by decide +kernel⟩
theorem Zm0 (M:Md K mg) (D:DfM K (clsA mg "Ledger") "cost" "Ledger.cost" Zak) (G_cost:Fn P w K mg base (CXr P w base) "cost" 2 Zmn (Zlz K mg)) (G_Ledger_book:FnM P w K mg base (CXr P w base) (clsA mg "Ledger") "book" 1 Qh (Yx K mg)) (G_Ledger_number_of:FnM P w K mg base (CXr P w base) (clsA mg "Ledger") "number_of" 2 Jv (Xr K mg)):FnM P w K mg base (CXr P w base) (clsA mg "Ledger") "cost" 3 Gw (Hx K mg):=D.to (λ F =>
 F.okR (k:=2) Hy (λ vs _ _ _ h=>Jx h) (λ cdv A outer s H vs Q E hr h=>by
  have hu:=hr.units
  obtain ⟨a0,a1,a2,rfl,h⟩:=h
  refine ⟨Hr K mg E,?_,Zmh M h⟩
  refine Zm ?_ (Zm ?_ (Zn ?_))
  · exact (Z8 (i:=3) Hy.nd rfl (Or.inl rfl) (Qi M.o_Ledger G_Ledger_number_of (hr.mono (by decide)) Xl (pv 0) (Ze (pv 1) Zf)))
  · exact (Z8 (i:=4) Hy.nd rfl (Or.inl rfl) (Qi M.o_Ledger G_Ledger_number_of (hr.mono (by decide)) Xl (pv 0) (Ze (pv 2) Zf)))
  · exact (Zx (Yd (G_cost.alias M.al_cost_days) (hr.mono (by decide)) (by rfl) Xl (Ze (Jr M.o_Ledger G_Ledger_book (hr.mono (by decide)) Xl (pv 0)) (Ze (pv 3) (Ze (pv 4) Zf))))))) (λ _ _ _ _ _ _ us hl=>match us,hl with | [_,_,_],_=>rfl)
abbrev Va:Stmt:=Qw (top 109) 9
abbrev Km:List Str:=["self","name","other"]
theorem Kl:FnScope ["self","name","other","day","another"] Km (Zq Va):=⟨rfl,rfl,rfl,by decide +kernel,rfl,by decide +kernel,by decide +kernel⟩
theorem Zif (M:Md K mg) (D:DfM K (clsA mg "Ledger") "at_once" "Ledger.at_once" Va) (G_Ledger_number_of:FnM P w K mg base (CXr P w base) (clsA mg "Ledger") "number_of" 2 Jv (Xr K mg)):FnM P w K mg base (CXr P w base) (clsA mg "Ledger") "at_once" 3 Km (Kh K mg):=D.to (λ F =>
 F.okR (k:=2) Kl (λ vs _ _ _ h=>Jx h) (λ cdv A outer s H vs Q E hr h=>by
  have hu:=hr.units
  obtain ⟨a0,a1,a2,rfl,h⟩:=h
  refine ⟨Ke K mg E,?_,Zid M h⟩
  refine Zm ?_ (Zm ?_ (Zn ?_))
  · exact (Z8 (i:=3) Kl.nd rfl (Or.inl rfl) (Qi M.o_Ledger G_Ledger_number_of (hr.mono (by decide)) Xl (pv 0) (Ze (pv 1) Zf)))
  · exact (Z8 (i:=4) Kl.nd rfl (Or.inl rfl) (Qi M.o_Ledger G_Ledger_number_of (hr.mono (by decide)) Xl (pv 0) (Ze (pv 2) Zf)))
  · exact Q6)) (λ _ _ _ _ _ _ us hl=>match us,hl with | [_,_,_],_=>rfl)
abbrev X3:Stmt:=Qw (top 109) 11
abbrev Hb:List Str:=["self","share"]
theorem Zcy:FnScope ["self","share","told"] Hb (Zq X3):=⟨rfl,rfl,rfl,by decide +kernel,rfl,by decide +kernel,by decide +kernel⟩
theorem Zln:∀ (T:Addr) (kV doc pm:Value) (an:Option Addr) (cdv ct u v:Value),∃ k,bindArgs (PySem.W.fnOf "taste" "Ledger.taste" (Qy X3) (Xw X3) (Zq X3) (.ref T) kV doc pm an cdv ct) ⟨[u,v],[]⟩=seqItems? (.ref T) >>= k/\k (some #[Value.none])=pure [(("self":Str),u),(("share":Str),v)] :=
 λ _ _ _ _ _ _ _ _ _=>⟨_,rfl,rfl⟩
theorem Zlo:∀ (T:Addr) (kV doc pm:Value) (an:Option Addr) (cdv ct u:Value),∃ k,bindArgs (PySem.W.fnOf "taste" "Ledger.taste" (Qy X3) (Xw X3) (Zq X3) (.ref T) kV doc pm an cdv ct) ⟨[u],[]⟩=seqItems? (.ref T) >>= k/\k (some #[Value.none])=pure [(("self":Str),u),(("share":Str),Value.none)] :=
 λ _ _ _ _ _ _ _ _=>⟨_,rfl,rfl⟩
theorem Zk9 (M:Md K mg) (D:DfMD K (clsA mg "Ledger") "taste" "Ledger.taste" X3) (G_Ledger_book:FnM P w K mg base (CXr P w base) (clsA mg "Ledger") "book" 1 Qh (Yx K mg)):FnMD P w K mg base (CXr P w base) (clsA mg "Ledger") "taste" 2 Hb (V1 K mg):=D.to (λ F =>
 F.okR (k:=1) Zcy (λ vs _ _ _ h=>Q5 h) (λ cdv A outer s H vs Q E hr h=>by
  have hu:=hr.units
  obtain ⟨a0,a1,rfl,h⟩:=h
  refine ⟨Vr K mg E,?_,Zkd M h⟩
  refine Zm ?_ (Zm ?_ (Zn ?_))
  · exact (Z8 (i:=2) Zcy.nd rfl (Or.inl rfl) (Zdb M.nc_taste_of (by rfl) (Ze (Jr M.o_Ledger G_Ledger_book (hr.mono (by decide)) Xl (pv 0)) (Ze (pv 1) Zf))))
  · exact Q6
  · exact Q6)) Zln Zlo
abbrev Zb9:Stmt:=Qw (top 109) 12
abbrev Zau:List Str:=["self"]
theorem Znz:FnScope ["self"] Zau (Zq Zb9):=⟨rfl,rfl,rfl,by decide +kernel,rfl,by decide +kernel,by decide +kernel⟩
theorem Zon (M:Md K mg) (D:DfM K (clsA mg "Ledger") "cut" "Ledger.cut" Zb9) (G_Ledger_book:FnM P w K mg base (CXr P w base) (clsA mg "Ledger") "book" 1 Qh (Yx K mg)):FnM P w K mg base (CXr P w base) (clsA mg "Ledger") "cut" 2 Zau (Zaa K mg):=D.to (λ F =>
 F.okR (k:=1) Znz (λ vs _ _ _ h=>Yr h) (λ cdv A outer s H vs Q E hr h=>by
  have hu:=hr.units
  obtain ⟨a0,rfl,h⟩:=h
  refine ⟨Et K mg E,?_,Zoa M h⟩
  refine Zn ?_
  exact (Zx (Zdb M.nc_cut_cuts (by rfl) (Ze (Jr M.o_Ledger G_Ledger_book (hr.mono (by decide)) Xl (pv 0)) Zf))))) (λ _ _ _ _ _ _ us hl=>match us,hl with | [_],_=>rfl)
abbrev V3:Stmt:=Qw (top 109) 13
abbrev Vc:List Str:=["self"]
theorem Zi0:FnScope ["self"] Vc (Zq V3):=⟨rfl,rfl,rfl,by decide +kernel,rfl,by decide +kernel,by decide +kernel⟩
theorem Zjf (M:Md K mg) (D:DfM K (clsA mg "Ledger") "fewest" "Ledger.fewest" V3) (G_Ledger_book:FnM P w K mg base (CXr P w base) (clsA mg "Ledger") "book" 1 Qh (Yx K mg)) (G_Ledger_names_of:FnM P w K mg base CX0 (clsA mg "Ledger") "names_of" 2 Ec spNo):FnM P w K mg base (CXr P w base) (clsA mg "Ledger") "fewest" 3 Vc (K4 K mg):=D.to (λ F =>
 F.okR (k:=2) Zi0 (λ vs _ _ _ h=>Yr h) (λ cdv A outer s H vs Q E hr h=>by
  have hu:=hr.units
  obtain ⟨a0,rfl,h⟩:=h
  refine ⟨K3 K mg E,?_,Zi5 M h⟩
  refine Zn ?_
  exact (Zx (Qi M.o_Ledger G_Ledger_names_of (hr.mono (by decide)) Ym (pv 0) (Ze (Zdb M.nc_fewest_leaving (by rfl) (Ze (Jr M.o_Ledger G_Ledger_book (hr.mono (by decide)) Xl (pv 0)) Zf)) Zf))))) (λ _ _ _ _ _ _ us hl=>match us,hl with | [_],_=>rfl)
abbrev Uq:Stmt:=Qw (top 109) 14
abbrev Uc:List Str:=["self"]
theorem Hf:FnScope ["self","days"] Uc (Zq Uq):=⟨rfl,rfl,rfl,by decide +kernel,rfl,by decide +kernel,by decide +kernel⟩
theorem Zgl (M:Md K mg) (D:DfM K (clsA mg "Ledger") "two_hands" "Ledger.two_hands" Uq) (G_Ledger_book:FnM P w K mg base (CXr P w base) (clsA mg "Ledger") "book" 1 Qh (Yx K mg)):FnM P w K mg base (CXr P w base) (clsA mg "Ledger") "two_hands" 2 Uc (Ub K mg):=D.to (λ F =>
 F.okR (k:=1) Hf (λ vs _ _ _ h=>Yr h) (λ cdv A outer s H vs Q E hr h=>by
  have hu:=hr.units
  obtain ⟨a0,rfl,h⟩:=h
  refine ⟨W8 K mg E,?_,Zgj M h⟩
  refine Zm ?_ (Zm ?_ (Zn ?_))
  · exact (Z8 (i:=1) Hf.nd rfl (Or.inl rfl) (Zdb M.nc_two_hands_leaving (by rfl) (Ze (Jr M.o_Ledger G_Ledger_book (hr.mono (by decide)) Xl (pv 0)) Zf)))
  · exact Q6
  · exact Q6)) (λ _ _ _ _ _ _ us hl=>match us,hl with | [_],_=>rfl)
abbrev Zdt:Stmt:=top 113
abbrev Zcg:List Str:=["word"]
theorem Zpo:FnScope ["word"] Zcg (Zq Zdt):=⟨rfl,rfl,rfl,by decide +kernel,rfl,by decide +kernel,by decide +kernel⟩
theorem Zq3 (M:Md K mg) (D:Df K mg "is_number" Zdt)  : Fn P w K mg base CX0 "is_number" 1 Zcg (Zbs K):=D.to (λ F =>
 F.ok (k:=0) Zpo (λ vs _ _ _ h=>Yr h) (λ cdv A outer s H vs Q E hr h=>by
  have hu:=hr.units
  obtain ⟨a0,rfl,h⟩:=h
  refine ⟨Zbh K,?_,Zp2 h⟩
  refine Zm ?_ (Zn ?_)
  · exact (Yt (PW.pt (Zkh (Wq (Zqe Hd Hd Zj (Yc (call_lenU) (by rfl) M.b_len Yz (Ze (pv 0) Zf)) (Gx M.c_MOST_FIGURES))) (Zhj (Wq (Wd (Yc (call_allU rfl) (by rfl) M.b_all Zct (Ze (X4 (N:=["sign"]) (l:=[none]) rfl ⟨rfl,by decide +kernel,by decide +kernel,by first | decide +kernel | rfl,  True.intro,by decide +kernel⟩ (Zvs (pv 0)) (λ _ _ _ _ _=>(Yh (i:=0) (show List.Nodup (["sign"]:List Str) by decide +kernel) rfl (Or.inl rfl))) (λ _ _ _ _ _=>Xh) (λ _ _ _ _ _=>(Qv Zv0 (pv 0) (Zmo M.c_FIGURES) (by with_unfolding_all rfl)))) Zf)) (λ _=>rfl)))))) (Zn (Zx Kz)) Z9)
  · exact (Zx (Z3d (Qv (op_eqU hu) (pv 0) Zi (Yj _)) (Us (Zvu (We PySem.F.plainAttrs_str PySem.F.slot_str_startswith PySem.F.type_str_startswith Zni (pv 0) (Ze Zi Zf)))))))) (λ _ _ _ _ _ _ us hl=>match us,hl with | [_],_=>rfl)
abbrev Zb2:Stmt:=top 114
abbrev Kw:List Str:=["holds"]
theorem Znv:FnScope ["holds"] Kw (Zq Zb2):=⟨rfl,rfl,rfl,by decide +kernel,rfl,by decide +kernel,by decide +kernel⟩
theorem Zog (M:Md K mg) (D:Df K mg "check_text" Zb2)  : Fn P w K mg base (CXr P w base) "check_text" 1 Kw (Wz K mg):=D.to (λ F =>
 F.okR (k:=0) Znv (λ vs _ _ _ h=>Yr h) (λ cdv A outer s H vs Q E hr h=>by
  have hu:=hr.units
  obtain ⟨a0,rfl,h⟩:=h
  refine ⟨El K mg E,?_,Zn3 M h⟩
  refine Zn ?_
  exact (Yt (Wq (Wd (pv 0) (λ _=>rfl))) (Zn (Wx Za1 rfl M.x_NoText (by rfl) (Ze Zi Zf))) Z9))) (λ _ _ _ _ _ _ us hl=>match us,hl with | [_],_=>rfl)
abbrev Zds:Stmt:=top 115
abbrev Zcf:List Str:=["word"]
theorem Zg0:FnScope ["word","numbers"] Zcf (Zq Zds):=⟨rfl,rfl,rfl,by decide +kernel,rfl,by decide +kernel,by decide +kernel⟩
theorem Zq2 (M:Md K mg) (D:Df K mg "read_ware" Zds) (G_is_number:Fn P w K mg base CX0 "is_number" 1 Zcg (Zbs K)) (G_check_text:Fn P w K mg base (CXr P w base) "check_text" 1 Kw (Wz K mg)):Fn P w K mg base (CXr P w base) "read_ware" 2 Zcf (Zbr K mg):=D.to (λ F =>
 F.okR (k:=1) Zg0 (λ vs _ _ _ h=>Yr h) (λ cdv A outer s H vs Q E hr h=>by
  have hu:=hr.units
  obtain ⟨a0,rfl,h⟩:=h
  refine ⟨Zbg K mg E,?_,Zp1 M h⟩
  refine Zm ?_ (Zm ?_ (Zn ?_))
  · exact (Z8 (i:=1) Zg0.nd rfl (Or.inl rfl) (We PySem.F.plainAttrs_str PySem.F.slot_str_split PySem.F.type_str_split Zi9 (pv 0) (Ze Zi Zf)))
  · exact (Q7 (Yd G_check_text (hr.mono (by decide)) (by rfl) Xl (Ze (Uu (Qv (op_eqU hu) (Yc (call_lenU) (by rfl) M.b_len Yz (Ze (pv 1) Zf)) Zj (Yj _)) (Us (Yc (call_allU rfl) (by rfl) M.b_all Zct (Ze (X4 (N:=["number"]) (l:=[none]) rfl ⟨rfl,by decide +kernel,by decide +kernel,by first | decide +kernel | rfl,  True.intro,by decide +kernel⟩ (pi_seq (pv 1)) (λ _ _ _ _ _=>(Yh (i:=0) (show List.Nodup (["number"]:List Str) by decide +kernel) rfl (Or.inl rfl))) (λ _ _ _ _ _=>Xh) (λ _ _ _ _ _=>(Yd G_is_number (hr.mono (by decide)) (by rfl) Ym (Ze (pv 0) Zf)))) Zf)))) Zf)))
  · exact (Zx (Eg (Ze (Qt Znn (by rfl) M.b_int Zcs (Ze (Z3 Zy (pv 1) Zj (λ _ _=>rfl)) Zf)) (Ze (Qt Znn (by rfl) M.b_int Zcs (Ze (Z3 Zy (pv 1) Zj (λ _ _=>rfl)) Zf)) Zf)))))) (λ _ _ _ _ _ _ us hl=>match us,hl with | [_],_=>rfl)
abbrev Zfk:Stmt:=top 116
abbrev Zd5:List Str:=["text"]
theorem Zdp:FnScope ["text","wares","day"] Zd5 (Zq Zfk):=⟨rfl,rfl,rfl,by decide +kernel,rfl,by decide +kernel,by decide +kernel⟩
theorem Zsd (M:Md K mg) (D:Df K mg "read_day" Zfk) (G_is_day:Fn P w K mg base CX0 "is_day" 4 Zc6 (G9 K)) (G_check_text:Fn P w K mg base (CXr P w base) "check_text" 1 Kw (Wz K mg)) (G_read_ware:Fn P w K mg base (CXr P w base) "read_ware" 2 Zcf (Zbr K mg)):Fn P w K mg base (CXr P w base) "read_day" 5 Zd5 (Zdm K mg):=D.to (λ F =>
 F.okR (k:=4) Zdp (λ vs _ _ _ h=>Yr h) (λ cdv A outer s H vs Q E hr h=>by
  have hu:=hr.units
  obtain ⟨a0,rfl,h⟩:=h
  refine ⟨Zdg K mg E,?_,Zr2 M h⟩
  refine Zm ?_ (Zm ?_ (Zm ?_ (Zn ?_)))
  · exact (Zr7 Z18 rfl rfl (N:=["word"]) (l:=[none]) (i:=1) rfl Zdp.nd rfl rfl ⟨rfl,by decide +kernel,by decide +kernel,by first | decide +kernel | rfl,  True.intro,by decide +kernel⟩ (pi_seq (We PySem.F.plainAttrs_str PySem.F.slot_str_split PySem.F.type_str_split Zi9 (pv 0) (Ze Zi Zf))) (λ _ _ _ _ _=>(Yh (i:=0) (show List.Nodup (["word"]:List Str) by decide +kernel) rfl (Or.inl rfl))) (λ _ _ _ _ _=>Xh) (λ _ _ _ _ _=>(Yd G_read_ware (hr.mono (by decide)) (by rfl) Z19 (Ze (pv 0) Zf))))
  · exact (Z8 (i:=2) Zdp.nd rfl (Or.inl rfl) (Eg (Ze (Qt call_ty_tuple (by rfl) M.b_tuple U0 (Ze (X4 (N:=["ware"]) (l:=[none]) rfl ⟨rfl,by decide +kernel,by decide +kernel,by first | decide +kernel | rfl,  True.intro,by decide +kernel⟩ (pi_seq (pv 1)) (λ _ _ _ _ _=>(Yh (i:=0) (show List.Nodup (["ware"]:List Str) by decide +kernel) rfl (Or.inl rfl))) (λ _ _ _ _ _=>Xh) (λ _ _ _ _ _=>(Z3 Zy (pv 0) Zj (λ _ _=>rfl)))) Zf)) (Ze (Qt call_ty_tuple (by rfl) M.b_tuple U0 (Ze (X4 (N:=["ware"]) (l:=[none]) rfl ⟨rfl,by decide +kernel,by decide +kernel,by first | decide +kernel | rfl,  True.intro,by decide +kernel⟩ (pi_seq (pv 1)) (λ _ _ _ _ _=>(Yh (i:=0) (show List.Nodup (["ware"]:List Str) by decide +kernel) rfl (Or.inl rfl))) (λ _ _ _ _ _=>Xh) (λ _ _ _ _ _=>(Z3 Zy (pv 0) Zj (λ _ _=>rfl)))) Zf)) Zf))))
  · exact (Q7 (Yd G_check_text (hr.mono (by decide)) (by rfl) Xl (Ze (Yd G_is_day (hr.mono (by decide)) (by rfl) Ym (Ze (pv 2) Zf)) Zf)))
  · exact (Zx (pv 2)))) (λ _ _ _ _ _ _ us hl=>match us,hl with | [_],_=>rfl)
abbrev Zi1:Stmt:=top 120
abbrev Zc4:List Str:=["names"]
theorem Zvh:FnScope ["names"] Zc4 (Zq Zi1):=⟨rfl,rfl,rfl,by decide +kernel,rfl,by decide +kernel,by decide +kernel⟩
theorem Zwv (M:Md K mg) (D:Df K mg "listed" Zi1)  : Fn P w K mg base CX0 "listed" 1 Zc4 (G7 K):=D.to (λ F =>
 F.ok (k:=0) Zvh (λ vs _ _ _ h=>Yr h) (λ cdv A outer s H vs Q E hr h=>by
  have hu:=hr.units
  obtain ⟨a0,rfl,h⟩:=h
  refine ⟨Zgt K,?_,Zvj h⟩
  refine Zm ?_ (Zn ?_)
  · exact (Yt (Yu (op_eqU hu) (Yc (call_lenU) (by rfl) M.b_len Yz (Ze (pv 0) Zf)) Zj (Yj _)) (Zn (Zx (Zmo M.c_NOTHING))) Z9)
  · exact (Zx (We PySem.F.plainAttrs_str PySem.F.slot_str_join PySem.F.type_str_join Zer Zi (Ze (pv 0) Zf))))) (λ _ _ _ _ _ _ us hl=>match us,hl with | [_],_=>rfl)
abbrev Zad:Stmt:=top 121
abbrev Gn:List Str:=["ledger"]
theorem Zl0:FnScope ["ledger"] Gn (Zq Zad):=⟨rfl,rfl,rfl,by decide +kernel,rfl,by decide +kernel,by decide +kernel⟩
theorem Zmt (M:Md K mg) (D:Df K mg "shown_names" Zad) (G_Ledger_names:FnM P w K mg base CX0 (clsA mg "Ledger") "names" 1 Ug (J3 K mg)) (G_listed:Fn P w K mg base CX0 "listed" 1 Zc4 (G7 K)):Fn P w K mg base (CXr P w base) "shown_names" 2 Gn (U9 K mg):=D.to (λ F =>
 F.okR (k:=1) Zl0 (λ vs _ _ _ h=>Yr h) (λ cdv A outer s H vs Q E hr h=>by
  have hu:=hr.units
  obtain ⟨a0,rfl,h⟩:=h
  refine ⟨Hj K mg E,?_,Zl9 M h⟩
  refine Zn ?_
  exact (Zx (Yd G_listed (hr.mono (by decide)) (by rfl) Ym (Ze (Jr M.o_Ledger G_Ledger_names (hr.mono (by decide)) Ym (pv 0)) Zf))))) (λ _ _ _ _ _ _ us hl=>match us,hl with | [_],_=>rfl)
abbrev Zac:Stmt:=top 122
abbrev Gm:List Str:=["ledger"]
theorem Zed:FnScope ["ledger","told"] Gm (Zq Zac):=⟨rfl,rfl,rfl,by decide +kernel,rfl,by decide +kernel,by decide +kernel⟩
theorem Zms (M:Md K mg) (D:Df K mg "shown_taste" Zac) (G_Ledger_taste:FnMD P w K mg base (CXr P w base) (clsA mg "Ledger") "taste" 2 Hb (V1 K mg)):Fn P w K mg base (CXr P w base) "shown_taste" 3 Gm (U8 K mg):=D.to (λ F =>
 F.okR (k:=2) Zed (λ vs _ _ _ h=>Yr h) (λ cdv A outer s H vs Q E hr h=>by
  have hu:=hr.units
  obtain ⟨a0,rfl,h⟩:=h
  refine ⟨Hi K mg E,?_,Zl8 M h⟩
  refine Zm ?_ (Zm ?_ (Zn ?_))
  · exact (Z8 (i:=1) Zed.nd rfl (Or.inl rfl) (Zwy M.o_Ledger G_Ledger_taste (hr.mono (by decide)) Xl (pv 0)))
  · exact Q6
  · exact Q6)) (λ _ _ _ _ _ _ us hl=>match us,hl with | [_],_=>rfl)
abbrev Zdr:Stmt:=top 123
abbrev Zce:List Str:=["ledger"]
theorem Zgz:FnScope ["ledger","told"] Zce (Zq Zdr):=⟨rfl,rfl,rfl,by decide +kernel,rfl,by decide +kernel,by decide +kernel⟩
theorem Zq1 (M:Md K mg) (D:Df K mg "shown_cut" Zdr) (G_Ledger_cut:FnM P w K mg base (CXr P w base) (clsA mg "Ledger") "cut" 2 Zau (Zaa K mg)):Fn P w K mg base (CXr P w base) "shown_cut" 3 Zce (Vv K mg):=D.to (λ F =>
 F.okR (k:=2) Zgz (λ vs _ _ _ h=>Yr h) (λ cdv A outer s H vs Q E hr h=>by
  have hu:=hr.units
  obtain ⟨a0,rfl,h⟩:=h
  refine ⟨Zbf K mg E,?_,Zp0 M h⟩
  refine Zm ?_ (Zn ?_)
  · exact (Z8 (i:=1) Zgz.nd rfl (Or.inl rfl) (Jr M.o_Ledger G_Ledger_cut (hr.mono (by decide)) Xl (pv 0)))
  · exact Q6)) (λ _ _ _ _ _ _ us hl=>match us,hl with | [_],_=>rfl)
abbrev Ga:Stmt:=top 124
abbrev V4:List Str:=["ledger"]
theorem Zjz:FnScope ["ledger"] V4 (Zq Ga):=⟨rfl,rfl,rfl,by decide +kernel,rfl,by decide +kernel,by decide +kernel⟩
theorem Zk4 (M:Md K mg) (D:Df K mg "shown_fewest" Ga) (G_Ledger_fewest:FnM P w K mg base (CXr P w base) (clsA mg "Ledger") "fewest" 3 Vc (K4 K mg)) (G_listed:Fn P w K mg base CX0 "listed" 1 Zc4 (G7 K)):Fn P w K mg base (CXr P w base) "shown_fewest" 4 V4 (Ud K mg):=D.to (λ F =>
 F.okR (k:=3) Zjz (λ vs _ _ _ h=>Yr h) (λ cdv A outer s H vs Q E hr h=>by
  have hu:=hr.units
  obtain ⟨a0,rfl,h⟩:=h
  refine ⟨Vl K mg E,?_,Zj8 M h⟩
  refine Zn ?_
  exact (Zx (Yd G_listed (hr.mono (by decide)) (by rfl) Ym (Ze (Jr M.o_Ledger G_Ledger_fewest (hr.mono (by decide)) Xl (pv 0)) Zf))))) (λ _ _ _ _ _ _ us hl=>match us,hl with | [_],_=>rfl)
abbrev Zae:Stmt:=top 125
abbrev Gp:List Str:=["ledger"]
theorem Zee:FnScope ["ledger","names"] Gp (Zq Zae):=⟨rfl,rfl,rfl,by decide +kernel,rfl,by decide +kernel,by decide +kernel⟩
theorem Zmu (M:Md K mg) (D:Df K mg "shown_hands" Zae) (G_Ledger_two_hands:FnM P w K mg base (CXr P w base) (clsA mg "Ledger") "two_hands" 2 Uc (Ub K mg)):Fn P w K mg base (CXr P w base) "shown_hands" 3 Gp (Ka K mg):=D.to (λ F =>
 F.okR (k:=2) Zee (λ vs _ _ _ h=>Yr h) (λ cdv A outer s H vs Q E hr h=>by
  have hu:=hr.units
  obtain ⟨a0,rfl,h⟩:=h
  refine ⟨Hk K mg E,?_,Zma M h⟩
  refine Zm ?_ (Zm ?_ (Zn ?_))
  · exact (Z8 (i:=1) Zee.nd rfl (Or.inl rfl) (Jr M.o_Ledger G_Ledger_two_hands (hr.mono (by decide)) Xl (pv 0)))
  · exact Q6
  · exact Q6)) (λ _ _ _ _ _ _ us hl=>match us,hl with | [_],_=>rfl)
abbrev Zfj:Stmt:=top 126
abbrev Zd4:List Str:=["ledger","name"]
theorem Zrw:FnScope ["ledger","name"] Zd4 (Zq Zfj):=⟨rfl,rfl,rfl,by decide +kernel,rfl,by decide +kernel,by decide +kernel⟩
theorem Zsc (M:Md K mg) (D:Df K mg "take_day" Zfj) (G_Ledger_take:FnM P w K mg base (CXr P w base) (clsA mg "Ledger") "take" 2 Gu (Hv K mg)):Fn P w K mg base (CXr P w base) "take_day" 3 Zd4 (G4 K mg):=D.to (λ F =>
 F.okR (k:=2) Zrw (λ vs _ _ _ h=>Q5 h) (λ cdv A outer s H vs Q E hr h=>by
  have hu:=hr.units
  obtain ⟨a0,a1,rfl,h⟩:=h
  refine ⟨Zdf K mg E,?_,Zr1 M h⟩
  refine Zm ?_ (Zn ?_)
  · exact (Q7 (Qi M.o_Ledger G_Ledger_take (hr.mono (by decide)) Xl (pv 0) (Ze (pv 1) Zf)))
  · exact (Zx Zi))) (λ _ _ _ _ _ _ us hl=>match us,hl with | [_,_],_=>rfl)
abbrev Zb0:Stmt:=top 134
abbrev Zan:List Str:=["ledger","word"]
theorem Znt:FnScope ["ledger","word"] Zan (Zq Zb0):=⟨rfl,rfl,rfl,by decide +kernel,rfl,by decide +kernel,by decide +kernel⟩
theorem Zoe (M:Md K mg) (D:Df K mg "shown_kind" Zb0) (G_Ledger_book:FnM P w K mg base (CXr P w base) (clsA mg "Ledger") "book" 1 Qh (Yx K mg)):Fn P w K mg base (CXr P w base) "shown_kind" 2 Zan (Ks K mg):=D.to (λ F =>
 F.okR (k:=1) Znt (λ vs _ _ _ h=>Q5 h) (λ cdv A outer s H vs Q E hr h=>by
  have hu:=hr.units
  obtain ⟨a0,a1,rfl,h⟩:=h
  refine ⟨Ej K mg E,?_,Zn1 M h⟩
  refine Zm ?_ (Zn ?_)
  · exact (Yt (Zen (Zvw M.t_KINDS (by rfl) (pv 1)) (by with_unfolding_all rfl)) (Zn (Wx Za1 rfl M.x_NoRow (by rfl) (Ze Zi Zf))) Z9)
  · exact (Zx (Zx6 (Wd (Zun M.t_KINDS (by rfl) (pv 1) (Ze (Jr M.o_Ledger G_Ledger_book (hr.mono (by decide)) Xl (pv 0)) Zf) (λ _ _=>rfl)) (λ _=>rfl)) Zi Zi)))) (λ _ _ _ _ _ _ us hl=>match us,hl with | [_,_],_=>rfl)
abbrev Zhe:Stmt:=top 135
abbrev Zfr:List Str:=["ledger","name","text"]
theorem Zj0:FnScope ["ledger","name","text","day"] Zfr (Zq Zhe):=⟨rfl,rfl,rfl,by decide +kernel,rfl,by decide +kernel,by decide +kernel⟩
theorem Zui (M:Md K mg) (D:Df K mg "put_day" Zhe) (G_check_name:Fn P w K mg base (CXr P w base) "check_name" 2 Ky (W0 K mg)) (G_Ledger_put:FnM P w K mg base (CXr P w base) (clsA mg "Ledger") "put" 7 Zat (Ez K mg)) (G_read_day:Fn P w K mg base (CXr P w base) "read_day" 5 Zd5 (Zdm K mg)):Fn P w K mg base (CXr P w base) "put_day" 8 Zfr (Zay K mg):=D.to (λ F =>
 F.okR (k:=7) Zj0 (λ vs _ _ _ h=>Jx h) (λ cdv A outer s H vs Q E hr h=>by
  have hu:=hr.units
  obtain ⟨a0,a1,a2,rfl,h⟩:=h
  refine ⟨Ze9 K mg E,?_,Ztx M h⟩
  refine Zm ?_ (Zm ?_ (Zm ?_ (Zn ?_)))
  · exact (Q7 (Yd G_check_name (hr.mono (by decide)) (by rfl) Xl (Ze (pv 1) Zf)))
  · exact (Z8 (i:=3) Zj0.nd rfl (Or.inl rfl) (Yd G_read_day (hr.mono (by decide)) (by rfl) Xl (Ze (pv 2) Zf)))
  · exact (Q7 (Qi M.o_Ledger G_Ledger_put (hr.mono (by decide)) Xl (pv 0) (Ze (pv 1) (Ze (Z3 Zy (pv 3) Zj (λ _ _=>rfl)) (Ze (Z3 Zy (pv 3) Zj (λ _ _=>rfl)) Zf)))))
  · exact (Zx Zi))) (λ _ _ _ _ _ _ us hl=>match us,hl with | [_,_,_],_=>rfl)
abbrev Zb1:Stmt:=top 136
abbrev Zao:List Str:=["ledger","name","other"]
theorem Znu:FnScope ["ledger","name","other"] Zao (Zq Zb1):=⟨rfl,rfl,rfl,by decide +kernel,rfl,by decide +kernel,by decide +kernel⟩
theorem Zof (M:Md K mg) (D:Df K mg "shown_cost" Zb1) (G_Ledger_cost:FnM P w K mg base (CXr P w base) (clsA mg "Ledger") "cost" 3 Gw (Hx K mg)):Fn P w K mg base (CXr P w base) "shown_cost" 4 Zao (Ku K mg):=D.to (λ F =>
 F.okR (k:=3) Znu (λ vs _ _ _ h=>Jx h) (λ cdv A outer s H vs Q E hr h=>by
  have hu:=hr.units
  obtain ⟨a0,a1,a2,rfl,h⟩:=h
  refine ⟨Ek K mg E,?_,Zn2 M h⟩
  refine Zn ?_
  exact (Zx (Qt Eh (by rfl) M.b_str Zhs (Ze (Qi M.o_Ledger G_Ledger_cost (hr.mono (by decide)) Xl (pv 0) (Ze (pv 1) (Ze (pv 2) Zf))) Zf))))) (λ _ _ _ _ _ _ us hl=>match us,hl with | [_,_,_],_=>rfl)
abbrev Zbz:Stmt:=top 137
abbrev Zam:List Str:=["ledger","name","other"]
theorem Zf6:FnScope ["ledger","name","other","mark"] Zam (Zq Zbz):=⟨rfl,rfl,rfl,by decide +kernel,rfl,by decide +kernel,by decide +kernel⟩
theorem Zod (M:Md K mg) (D:Df K mg "shown_mark" Zbz) (G_Ledger_at_once:FnM P w K mg base (CXr P w base) (clsA mg "Ledger") "at_once" 3 Km (Kh K mg)):Fn P w K mg base (CXr P w base) "shown_mark" 4 Zam (Kr K mg):=D.to (λ F =>
 F.okR (k:=3) Zf6 (λ vs _ _ _ h=>Jx h) (λ cdv A outer s H vs Q E hr h=>by
  have hu:=hr.units
  obtain ⟨a0,a1,a2,rfl,h⟩:=h
  refine ⟨Ei K mg E,?_,Zn0 M h⟩
  refine Zm ?_ (Zm ?_ (Zm ?_ (Zn ?_)))
  · exact (Z8 (i:=3) Zf6.nd rfl (Or.inl rfl) (Qi M.o_Ledger G_Ledger_at_once (hr.mono (by decide)) Xl (pv 0) (Ze (pv 1) (Ze (pv 2) Zf))))
  · exact Q6
  · exact Q6
  · exact Q6)) (λ _ _ _ _ _ _ us hl=>match us,hl with | [_,_,_],_=>rfl)
abbrev Zfi:Stmt:=top 141
abbrev Zd3:List Str:=["row"]
theorem Zrv:FnScope ["row"] Zd3 (Zq Zfi):=⟨rfl,rfl,rfl,by decide +kernel,rfl,by decide +kernel,by decide +kernel⟩
theorem Zsb (M:Md K mg) (D:Df K mg "words_of" Zfi)  : Fn P w K mg base CX0 "words_of" 1 Zd3 (Zdl K):=D.to (λ F =>
 F.ok (k:=0) Zrv (λ vs _ _ _ h=>Yr h) (λ cdv A outer s H vs Q E hr h=>by
  have hu:=hr.units
  obtain ⟨a0,rfl,h⟩:=h
  refine ⟨Zde K,?_,Zr0 h⟩
  refine Zm ?_ (Zn ?_)
  · exact (Yt (Wd (We PySem.F.plainAttrs_str PySem.F.slot_str_startswith PySem.F.type_str_startswith Zni (pv 0) (Ze Zi Zf)) (λ _=>rfl)) (Zn (Zx (Z2t PySem.F.plainAttrs_str PySem.F.slot_str_split PySem.F.type_str_split (Zv5 (by decide)) (pv 0) (Ze Zi (Ze Zj Zf))))) Z9)
  · exact (Zx (We PySem.F.plainAttrs_str PySem.F.slot_str_split PySem.F.type_str_split Zi9 (pv 0) (Ze Zi Zf))))) (λ _ _ _ _ _ _ us hl=>match us,hl with | [_],_=>rfl)
abbrev Zd2:Stmt:=Qw (top 142) 0
abbrev Hc:List Str:=["self"]
theorem Zpu:FnScope ["self"] Hc (Zq Zd2):=⟨rfl,rfl,rfl,by decide +kernel,rfl,by decide +kernel,by decide +kernel⟩
theorem Zrc (M:Md K mg) (D:DfM K (clsA mg "Desk") "__init__" "Desk.__init__" Zd2) (G_Ledger_init:FnM P w K mg base CX0 (clsA mg "Ledger") "__init__" 1 Gv (Hw K mg)):FnM P w K mg base CX0 (clsA mg "Desk") "__init__" 3 Hc (Wo K mg):=D.to (λ F =>
 F.ok (k:=2) Zpu (λ vs _ _ _ h=>Yr h) (λ cdv A outer s H vs Q E hr h=>by
  have hu:=hr.units
  obtain ⟨a0,rfl,h⟩:=h
  refine ⟨Zbp K mg,?_,Zqa M h⟩
  refine Zn ?_
  exact (Zvq (pv 0) (Zji M.o_Ledger G_Ledger_init (hr.mono (by decide)) (by rfl) Ym) rfl))) (λ _ _ _ _ _ _ us hl=>match us,hl with | [_],_=>rfl)
abbrev Zfo:Stmt:=Qw (top 142) 1
abbrev Kp:List Str:=["self","row"]
theorem Zdq:FnScope ["self","row","words","first"] Kp (Zq Zfo):=⟨rfl,rfl,rfl,by decide +kernel,rfl,by decide +kernel,by decide +kernel⟩
theorem Zsh (M:Md K mg) (D:DfM K (clsA mg "Desk") "say" "Desk.say" Zfo) (G_shown_names:Fn P w K mg base (CXr P w base) "shown_names" 2 Gn (U9 K mg)) (G_shown_taste:Fn P w K mg base (CXr P w base) "shown_taste" 3 Gm (U8 K mg)) (G_shown_cut:Fn P w K mg base (CXr P w base) "shown_cut" 3 Zce (Vv K mg)) (G_shown_fewest:Fn P w K mg base (CXr P w base) "shown_fewest" 4 V4 (Ud K mg)) (G_shown_hands:Fn P w K mg base (CXr P w base) "shown_hands" 3 Gp (Ka K mg)) (G_take_day:Fn P w K mg base (CXr P w base) "take_day" 3 Zd4 (G4 K mg)) (G_shown_kind:Fn P w K mg base (CXr P w base) "shown_kind" 2 Zan (Ks K mg)) (G_put_day:Fn P w K mg base (CXr P w base) "put_day" 8 Zfr (Zay K mg)) (G_shown_cost:Fn P w K mg base (CXr P w base) "shown_cost" 4 Zao (Ku K mg)) (G_shown_mark:Fn P w K mg base (CXr P w base) "shown_mark" 4 Zam (Kr K mg)) (G_words_of:Fn P w K mg base CX0 "words_of" 1 Zd3 (Zdl K)):FnM P w K mg base (CXr P w base) (clsA mg "Desk") "say" 9 Kp (Xg K mg):=D.to (λ F =>
 F.okR (k:=8) Zdq (λ vs _ _ _ h=>Q5 h) (λ cdv A outer s H vs Q E hr h=>by
  have hu:=hr.units
  obtain ⟨a0,a1,rfl,h⟩:=h
  refine ⟨Zdk K mg E,?_,Zr6 M h⟩
  refine Zm ?_ (Zm ?_ (Zm ?_ (Zm ?_ (Zm ?_ (Zn ?_)))))
  · exact (Z8 (i:=2) Zdq.nd rfl (Or.inl rfl) (Yd G_words_of (hr.mono (by decide)) (by rfl) Ym (Ze (pv 1) Zf)))
  · exact (Z8 (i:=3) Zdq.nd rfl (Or.inl rfl) (Z3 Zy (pv 2) Zj (λ _ _=>rfl)))
  · exact (Yt (PW.pt (Zqc (Yu (op_eqU hu) (Yc (call_lenU) (by rfl) M.b_len Yz (Ze (pv 2) Zf)) Zj (Yj _)) (Zml (Zen (Zqk M.t_ALONE (by rfl) (pv 3)) (by with_unfolding_all rfl))))) (Zn (Zx (Zjh (CX:=CXr P w base) (k:=8) (S:=[(clsA mg "shown_names",U9 K mg),(clsA mg "shown_taste",U8 K mg),(clsA mg "shown_cut",Vv K mg),(clsA mg "shown_fewest",Ud K mg),(clsA mg "shown_hands",Ka K mg)]) M.t_ALONE (by rfl) (pv 3) (G5 (Ko G_shown_names (by decide)) (G5 (Ko G_shown_taste (by decide)) (G5 (Ko G_shown_cut (by decide)) (G5 (Ko G_shown_fewest (by decide)) (G5 (Ko G_shown_hands (by decide)) Zut))))) (hr.mono (by decide)) Xl (Ze (Ut (pv 0) rfl) Zf) (λ _ _=>rfl)))) Z9)
  · exact (Yt (PW.pt (Zqc (Yu (op_eqU hu) (Yc (call_lenU) (by rfl) M.b_len Yz (Ze (pv 2) Zf)) Zj (Yj _)) (Zml (Zen (Zqk M.t_WITH_ONE (by rfl) (pv 3)) (by with_unfolding_all rfl))))) (Zn (Zx (Zjh (CX:=CXr P w base) (k:=8) (S:=[(clsA mg "take_day",G4 K mg),(clsA mg "shown_kind",Ks K mg)]) M.t_WITH_ONE (by rfl) (pv 3) (G5 (Ko G_take_day (by decide)) (G5 (Ko G_shown_kind (by decide)) Zut)) (hr.mono (by decide)) Xl (Ze (Ut (pv 0) rfl) (Ze (Z3 Zy (pv 2) Zj (λ _ _=>rfl)) Zf)) (λ _ _=>rfl)))) Z9)
  · exact (Yt (PW.pt (Zqc (Yu (op_eqU hu) (Yc (call_lenU) (by rfl) M.b_len Yz (Ze (pv 2) Zf)) Zj (Yj _)) (Zml (Zen (Zqk M.t_WITH_TWO (by rfl) (pv 3)) (by with_unfolding_all rfl))))) (Zn (Zx (Zjh (CX:=CXr P w base) (k:=8) (S:=[(clsA mg "put_day",Zay K mg),(clsA mg "shown_cost",Ku K mg),(clsA mg "shown_mark",Kr K mg)]) M.t_WITH_TWO (by rfl) (pv 3) (G5 (Ko G_put_day (by decide)) (G5 (Ko G_shown_cost (by decide)) (G5 (Ko G_shown_mark (by decide)) Zut))) (hr.mono (by decide)) Xl (Ze (Ut (pv 0) rfl) (Ze (Z3 Zy (pv 2) Zj (λ _ _=>rfl)) (Ze (Z3 Zy (pv 2) Zj (λ _ _=>rfl)) Zf))) (λ _ _=>rfl)))) Z9)
  · exact (Wx Za1 rfl M.x_NoRow (by rfl) (Ze Zi Zf)))) (λ _ _ _ _ _ _ us hl=>match us,hl with | [_,_],_=>rfl)
abbrev Zdz:Stmt:=top 144
abbrev Ha:List Str:=["_law_script","_law_k"]
theorem Zbw:FnScope ["_law_script","_law_k","_law_number"] Ha (Zq Zdz):=⟨rfl,rfl,rfl,by decide +kernel,rfl,by decide +kernel,by decide +kernel⟩
theorem Zq9 (M:Md K mg) (D:Df K mg "_law_cell" Zdz)  : Fn P w K mg base CX0 "_law_cell" 1 Ha (Wn K):=D.to (λ F =>
 F.ok (k:=0) Zbw (λ vs _ _ _ h=>Q5 h) (λ cdv A outer s H vs Q E hr h=>by
  have hu:=hr.units
  obtain ⟨a0,a1,rfl,h⟩:=h
  refine ⟨Zbm K,?_,Zp7 h⟩
  refine Zm ?_ (Zm ?_ (Zm ?_ (Zn ?_)))
  · exact (Yt (Yu Zt6 (pv 1) (Yc (call_lenU) (by rfl) M.b_len Yz (Ze (pv 0) Zf)) (Yj _)) (Zn (Zx (Zo op_modU (Zo op_mulU (Zo op_addU (Z3 Zy (pv 0) (pv 1) (λ _ _=>rfl)) Zj) Zj) (Ws (by decide +kernel) (by decide) (by decide) (by decide))))) Z9)
  · exact (Z8 (i:=2) Zbw.nd rfl (Or.inl rfl) (Zo op_addU (Zo op_mulU (Zo op_mulU (pv 1) (pv 1)) Zj) Zj))
  · exact (Yt (Yu Zt7 (Yc (call_lenU) (by rfl) M.b_len Yz (Ze (pv 0) Zf)) Zj (Yj _)) (Zn (Z8 (i:=2) Zbw.nd rfl (Or.inl rfl) (Zo op_addU (pv 2) (Zo op_mulU (Zo op_modU (Z3 Zy (pv 0) (Zo op_modU (Zo op_mulU (pv 1) Zj) (Yc (call_lenU) (by rfl) M.b_len Yz (Ze (pv 0) Zf))) (λ _ _=>rfl)) (Ws (by decide +kernel) (by decide) (by decide) (by decide))) Zj)))) Z9)
  · exact (Zx (Zo op_modU (Zo op_mulU (Zo op_modU (Zo op_mulU (pv 2) (pv 2)) Zj) Zj) (Ws (by decide +kernel) (by decide) (by decide) (by decide)))))) (λ _ _ _ _ _ _ us hl=>match us,hl with | [_,_],_=>rfl)
abbrev Zdx:Stmt:=top 146
abbrev V9:List Str:=["_law_cell_here"]
theorem Zps:FnScope ["_law_cell_here"] V9 (Zq Zdx):=⟨rfl,rfl,rfl,by decide +kernel,rfl,by decide +kernel,by decide +kernel⟩
theorem Zq7 (M:Md K mg) (D:Df K mg "_law_next" Zdx)  : Fn P w K mg base CX0 "_law_next" 1 V9 (Um K):=D.to (λ F =>
 F.ok (k:=0) Zps (λ vs _ _ _ h=>Yr h) (λ cdv A outer s H vs Q E hr h=>by
  have hu:=hr.units
  obtain ⟨a0,rfl,h⟩:=h
  refine ⟨Zbk K,?_,Zp5 h⟩
  refine Zn ?_
  exact (Zx (Zo op_modU (Zo op_addU (Zo op_mulU (pv 0) Zj) Zj) (Ws (by decide +kernel) (by decide) (by decide) (by decide)))))) (λ _ _ _ _ _ _ us hl=>match us,hl with | [_],_=>rfl)
abbrev Zb5:Stmt:=top 147
abbrev Zaq:List Str:=["_law_cell_here","_law_wares"]
theorem Kv:FnScope ["_law_cell_here","_law_wares","_law_shape_here","_law_k"] Zaq (Zq Zb5):=⟨rfl,rfl,rfl,by decide +kernel,rfl,by decide +kernel,by decide +kernel⟩
theorem Zoj (M:Md K mg) (D:Df K mg "_law_shape" Zb5) (G__law_next:Fn P w K mg base CX0 "_law_next" 1 V9 (Um K)):Fn P w K mg base CX0 "_law_shape" 2 Zaq (Ew K):=D.to (λ F =>
 F.ok (k:=1) Kv (λ vs _ _ _ h=>Q5 h) (λ cdv A outer s H vs Q E hr h=>by
  have hu:=hr.units
  obtain ⟨a0,a1,rfl,h⟩:=h
  refine ⟨Eo K,?_,Zn6 h⟩
  refine Zm ?_ (Zm ?_ (Zm ?_ (Zn ?_)))
  · exact (Z8 (i:=2) Kv.nd rfl (Or.inl rfl) (Qc Zf))
  · exact (Eb PassesOwn.never rfl (Qz (by rfl) M.b_range (Ze (pv 1) Zf)) (Yh (i:=3) Kv.nd rfl (Or.inl rfl)) (Zm (Z8 (i:=0) Kv.nd rfl (Or.inl rfl) (Yd G__law_next (hr.mono (by decide)) (by rfl) Ym (Ze (pv 0) Zf)))
    (Zn (Q7 (We PySem.F.plainAttrs_list PySem.F.slot_list_append PySem.F.type_list_append Ed (pv 2) (Ze (Zo op_modU (Zo op_divU (pv 0) (Ws (by decide +kernel) (by decide) (by decide) (by decide))) Zj) Zf))))))
  · exact (Yt (Yu (op_eqU hu) (Yc (call_sumU rfl) (by rfl) M.b_sum Zlk (Ze (pv 2) Zf)) Zj (Yj _)) (Zn (Zki Zj (Zkl (pv 2) Zj Zfh))) Z9)
  · exact (Zx (pv 2)))) (λ _ _ _ _ _ _ us hl=>match us,hl with | [_,_],_=>rfl)
abbrev Zd1:Stmt:=top 148
abbrev Zcl:List Str:=["_law_prices","_law_shape_here","_law_j"]
theorem Zg2:FnScope ["_law_prices","_law_shape_here","_law_j","_law_k"] Zcl (Zq Zd1):=⟨rfl,rfl,rfl,by decide +kernel,rfl,by decide +kernel,by decide +kernel⟩
theorem Zrb (M:Md K mg) (D:Df K mg "_law_best" Zd1)  : Fn P w K mg base CX0 "_law_best" 1 Zcl (Zbv K):=D.to (λ F =>
 F.ok (k:=0) Zg2 (λ vs _ _ _ h=>Jx h) (λ cdv A outer s H vs Q E hr h=>by
  have hu:=hr.units
  obtain ⟨a0,a1,a2,rfl,h⟩:=h
  refine ⟨Zbo K,?_,Zp9 h⟩
  refine Zm ?_ (Zn ?_)
  · exact (Eb PassesOwn.never rfl (Qz (by rfl) M.b_range (Ze (Yc (call_lenU) (by rfl) M.b_len Yz (Ze (pv 0) Zf)) Zf)) (Yh (i:=3) Zg2.nd rfl (Or.inl rfl)) (Zn (Yt (Yu Zt7 (Zo op_mulU (Zo op_addU Zj (Z3 Zy (pv 1) (pv 3) (λ _ _=>rfl))) (Z3 Zy (pv 0) (pv 2) (λ _ _=>rfl))) (Zo op_mulU (Zo op_addU Zj (Z3 Zy (pv 1) (pv 2) (λ _ _=>rfl))) (Z3 Zy (pv 0) (pv 3) (λ _ _=>rfl))) (Yj _)) (Zn (Zx Zj)) Z9)))
  · exact (Zx Zj))) (λ _ _ _ _ _ _ us hl=>match us,hl with | [_,_,_],_=>rfl)
abbrev Zah:Stmt:=top 149
abbrev Gs:List Str:=["_law_way","_law_prices","_law_amounts","_law_shape_here","_law_times"]
theorem Zl2:FnScope ["_law_way","_law_prices","_law_amounts","_law_shape_here","_law_times"] Gs (Zq Zah):=⟨rfl,rfl,rfl,by decide +kernel,rfl,by decide +kernel,by decide +kernel⟩
theorem Zmx (M:Md K mg) (D:Df K mg "_law_bought" Zah) (G__law_best:Fn P w K mg base CX0 "_law_best" 1 Zcl (Zbv K)):Fn P w K mg base CX0 "_law_bought" 2 Gs (Kc K):=D.to (λ F =>
 F.ok (k:=1) Zl2 (λ vs _ _ _ h=>Zzz h) (λ cdv A outer s H vs Q E hr h=>by
  have hu:=hr.units
  obtain ⟨a0,a1,a2,a3,a4,rfl,h⟩:=h
  refine ⟨Hn K,?_,Zme h⟩
  refine Zm ?_ (Zm ?_ (Zm ?_ (Zm ?_ (Zm ?_ (Zn ?_)))))
  · exact (Yt (Yu (op_eqU hu) (pv 0) Zj (Yj _)) (Zn (Zx (X4 (N:=["_law_k","_law_times","_law_shape_here"]) (l:=[none,some 4,some 3]) rfl ⟨rfl,by decide +kernel,by decide +kernel,by first | decide +kernel | rfl,⟨⟨rfl,Or.inl rfl,rfl⟩,⟨⟨rfl,Or.inl rfl,rfl⟩,True.intro⟩⟩,by decide +kernel⟩ (Qz (by rfl) M.b_range (Ze (Yc (call_lenU) (by rfl) M.b_len Yz (Ze (pv 1) Zf)) Zf)) (λ _ _ _ _ _=>(Yh (i:=0) (show List.Nodup (["_law_k","_law_times","_law_shape_here"]:List Str) by decide +kernel) rfl (Or.inl rfl))) (λ _ _ _ _ _=>Xh) (λ _ _ _ _ _=>(Zo op_mulU (pv 1) (Z3 Zy (pv 2) (pv 0) (λ _ _=>rfl))))))) Z9)
  · exact (Yt (Yu (op_eqU hu) (pv 0) Zj (Yj _)) (Zn (Zx (X4 (N:=["_law_k","_law_times","_law_shape_here","_law_prices"]) (l:=[none,some 4,some 3,some 1]) rfl ⟨rfl,by decide +kernel,by decide +kernel,by first | decide +kernel | rfl,⟨⟨rfl,Or.inl rfl,rfl⟩,⟨⟨rfl,Or.inl rfl,rfl⟩,⟨⟨rfl,Or.inl rfl,rfl⟩,True.intro⟩⟩⟩,by decide +kernel⟩ (Qz (by rfl) M.b_range (Ze (Yc (call_lenU) (by rfl) M.b_len Yz (Ze (pv 1) Zf)) Zf)) (λ _ _ _ _ _=>(Yh (i:=0) (show List.Nodup (["_law_k","_law_times","_law_shape_here","_law_prices"]:List Str) by decide +kernel) rfl (Or.inl rfl))) (λ _ _ _ _ _=>Xh) (λ _ _ _ _ _=>(Zo op_divU (Zo op_mulU (Zo op_mulU (pv 1) (Z3 Zy (pv 2) (pv 0) (λ _ _=>rfl))) Zj) (Z3 Zy (pv 3) (pv 0) (λ _ _=>rfl))))))) Z9)
  · exact (Yt (Yu (op_eqU hu) (pv 0) Zj (Yj _)) (Zn (Zx (X4 (N:=["_law_k","_law_amounts","_law_prices","_law_shape_here"]) (l:=[none,some 2,some 1,some 3]) rfl ⟨rfl,by decide +kernel,by decide +kernel,by first | decide +kernel | rfl,⟨⟨rfl,Or.inl rfl,rfl⟩,⟨⟨rfl,Or.inl rfl,rfl⟩,⟨⟨rfl,Or.inl rfl,rfl⟩,True.intro⟩⟩⟩,by decide +kernel⟩ (Qz (by rfl) M.b_range (Ze (Yc (call_lenU) (by rfl) M.b_len Yz (Ze (pv 1) Zf)) Zf)) (λ _ _ _ _ _=>(Yh (i:=0) (show List.Nodup (["_law_k","_law_amounts","_law_prices","_law_shape_here"]:List Str) by decide +kernel) rfl (Or.inl rfl))) (λ _ _ _ _ _=>Xh) (λ _ _ _ _ _=>(Zo op_mulU (Zo op_addU Zj (Z3 Zy (pv 1) (pv 0) (λ _ _=>rfl))) (Yd G__law_best (hr.mono (by decide)) (by rfl) Ym (Ze (pv 2) (Ze (pv 3) (Ze (pv 0) Zf))))))))) Z9)
  · exact (Yt (Yu (op_eqU hu) (pv 0) Zj (Yj _)) (Zn (Zx (X4 (N:=["_law_k","_law_amounts","_law_prices"]) (l:=[none,some 2,some 1]) rfl ⟨rfl,by decide +kernel,by decide +kernel,by first | decide +kernel | rfl,⟨⟨rfl,Or.inl rfl,rfl⟩,⟨⟨rfl,Or.inl rfl,rfl⟩,True.intro⟩⟩,by decide +kernel⟩ (Qz (by rfl) M.b_range (Ze (Yc (call_lenU) (by rfl) M.b_len Yz (Ze (pv 1) Zf)) Zf)) (λ _ _ _ _ _=>(Yh (i:=0) (show List.Nodup (["_law_k","_law_amounts","_law_prices"]:List Str) by decide +kernel) rfl (Or.inl rfl))) (λ _ _ _ _ _=>Xh) (λ _ _ _ _ _=>(Zo op_mulU (Zo op_addU Zj (Z3 Zy (pv 1) (pv 0) (λ _ _=>rfl))) (Qt call_ty_int (by rfl) M.b_int Zcs (Ze (Qv (op_eqU hu) (Z3 Zy (pv 2) (pv 0) (λ _ _=>rfl)) (Yc (call_minU rfl) (by rfl) M.b_min Z2x (Ze (pv 2) Zf)) (Yj _)) Zf))))))) Z9)
  · exact (Yt (Yu (op_eqU hu) (pv 0) Zj (Yj _)) (Zn (Zx (X4 (N:=["_law_price_here"]) (l:=[none]) rfl ⟨rfl,by decide +kernel,by decide +kernel,by first | decide +kernel | rfl,  True.intro,by decide +kernel⟩ (pi_seq (pv 1)) (λ _ _ _ _ _=>(Yh (i:=0) (show List.Nodup (["_law_price_here"]:List Str) by decide +kernel) rfl (Or.inl rfl))) (λ _ _ _ _ _=>Xh) (λ _ _ _ _ _=>(Zo op_subU Zj (pv 0)))))) Z9)
  · exact (Zx (pv 2)))) (λ _ _ _ _ _ _ us hl=>match us,hl with | [_,_,_,_,_],_=>rfl)
abbrev Zb6:Stmt:=top 150
abbrev Zar:List Str:=["_law_way","_law_high"]
theorem Zny:FnScope ["_law_way","_law_high"] Zar (Zq Zb6):=⟨rfl,rfl,rfl,by decide +kernel,rfl,by decide +kernel,by decide +kernel⟩
theorem Zok (M:Md K mg) (D:Df K mg "_law_price" Zb6)  : Fn P w K mg base CX0 "_law_price" 1 Zar (Ex K):=D.to (λ F =>
 F.ok (k:=0) Zny (λ vs _ _ _ h=>Q5 h) (λ cdv A outer s H vs Q E hr h=>by
  have hu:=hr.units
  obtain ⟨a0,a1,rfl,h⟩:=h
  refine ⟨Ep K,?_,Zn7 h⟩
  refine Zm ?_ (Zm ?_ (Zm ?_ (Zm ?_ (Zn ?_))))
  · exact (Yt (Yu (op_eqU hu) (pv 0) Zj (Yj _)) (Zn (Zx (Zo op_addU Zj (Zo op_modU (pv 1) Zj)))) Z9)
  · exact (Yt (Yu (op_eqU hu) (pv 0) Zj (Yj _)) (Zn (Zx (Zo op_addU Zj (Zo op_modU (pv 1) Zj)))) Z9)
  · exact (Yt (Yu (op_eqU hu) (pv 0) Zj (Yj _)) (Zn (Zx (Zo op_addU Zj (Zo op_modU (pv 1) (Ws (by decide +kernel) (by decide) (by decide) (by decide)))))) Z9)
  · exact (Yt (Yu (op_eqU hu) (pv 0) Zj (Yj _)) (Zn (Zx (Z3 Zy (Qc (Ze Zj (Ze Zj (Ze Zj (Ze Zj (Ze Zj (Ze Zj Zf))))))) (Zo op_modU (pv 1) Zj) (λ _ _=>rfl)))) Z9)
  · exact (Zx (Zo op_addU Zj (Zo op_modU (pv 1) Zj))))) (λ _ _ _ _ _ _ us hl=>match us,hl with | [_,_],_=>rfl)
abbrev Zfn:Stmt:=top 151
abbrev Zd7:List Str:=["_law_cell_here","_law_way","_law_shape_here"]
theorem Qj:FnScope ["_law_cell_here","_law_way","_law_shape_here","_law_prices","_law_amounts","_law_k","_law_high","_law_at"] Zd7 (Zq Zfn):=⟨rfl,rfl,rfl,by decide +kernel,rfl,by decide +kernel,by decide +kernel⟩
theorem Zsg (M:Md K mg) (D:Df K mg "_law_day" Zfn) (G__law_next:Fn P w K mg base CX0 "_law_next" 1 V9 (Um K)) (G__law_bought:Fn P w K mg base CX0 "_law_bought" 2 Gs (Kc K)) (G__law_price:Fn P w K mg base CX0 "_law_price" 1 Zar (Ex K)):Fn P w K mg base CX0 "_law_day" 3 Zd7 (Zdo K):=D.to (λ F =>
 F.ok (k:=2) Qj (λ vs _ _ _ h=>Jx h) (λ cdv A outer s H vs Q E hr h=>by
  have hu:=hr.units
  obtain ⟨a0,a1,a2,rfl,h⟩:=h
  refine ⟨Zdj K,?_,Zr5 h⟩
  refine Zm ?_ (Zm ?_ (Zm ?_ (Zm ?_ (Zm ?_ (Zm ?_ (Zn ?_))))))
  · exact (Z8 (i:=3) Qj.nd rfl (Or.inl rfl) (Qc Zf))
  · exact (Z8 (i:=4) Qj.nd rfl (Or.inl rfl) (Qc Zf))
  · exact (Eb PassesOwn.never rfl (Qz (by rfl) M.b_range (Ze (Yc (call_lenU) (by rfl) M.b_len Yz (Ze (pv 2) Zf)) Zf)) (Yh (i:=5) Qj.nd rfl (Or.inl rfl)) (Zm (Z8 (i:=0) Qj.nd rfl (Or.inr rfl) (Yd G__law_next (hr.mono (by decide)) (by rfl) Ym (Ze (pv 0) Zf)))
    (Zm (Z8 (i:=6) Qj.nd rfl (Or.inl rfl) (Zo op_divU (pv 0) (Ws (by decide +kernel) (by decide) (by decide) (by decide))))
    (Zm (Q7 (We PySem.F.plainAttrs_list PySem.F.slot_list_append PySem.F.type_list_append Ed (pv 3) (Ze (Yd G__law_price (hr.mono (by decide)) (by rfl) Ym (Ze (pv 1) (Ze (pv 6) Zf))) Zf)))
    (Zn (Q7 (We PySem.F.plainAttrs_list PySem.F.slot_list_append PySem.F.type_list_append Ed (pv 4) (Ze (Z3 Zy (Qc (Ze (Zo op_modU (Zo op_divU (pv 6) Zj) Zj) (Ze (Zo op_modU (Zo op_divU (pv 6) (Ws (by decide +kernel) (by decide) (by decide) (by decide))) (Ws (by decide +kernel) (by decide) (by decide) (by decide))) Zf))) (Qt call_ty_int (by rfl) M.b_int Zcs (Ze (Qv (op_eqU hu) (pv 1) Zj (Yj _)) Zf)) (λ _ _=>rfl)) Zf))))))))
  · exact (Yt (Yu (op_eqU hu) (pv 1) Zj (Yj _)) (Zm (Z8 (i:=7) Qj.nd rfl (Or.inr rfl) (Zo op_modU (Zo op_divU (pv 0) (Ws (by decide +kernel) (by decide) (by decide) (by decide))) (Yc (call_lenU) (by rfl) M.b_len Yz (Ze (pv 3) Zf))))
    (Zm (Za0 (N:=["_law_k","_law_cell_here","_law_at","_law_shape_here"]) (l:=[none,some 0,some 7,some 2]) (i:=3) rfl Qj.nd rfl rfl ⟨rfl,by decide +kernel,by decide +kernel,by first | decide +kernel | rfl,⟨⟨rfl,Or.inl rfl,rfl⟩,⟨⟨rfl,Or.inl rfl,rfl⟩,⟨⟨rfl,Or.inl rfl,rfl⟩,True.intro⟩⟩⟩,by decide +kernel⟩ (Qz (by rfl) M.b_range (Ze (Yc (call_lenU) (by rfl) M.b_len Yz (Ze (pv 2) Zf)) Zf)) (λ _ _ _ _ _=>(Yh (i:=0) (show List.Nodup (["_law_k","_law_cell_here","_law_at","_law_shape_here"]:List Str) by decide +kernel) rfl (Or.inl rfl))) (λ _ _ _ _ _=>Xh) (λ _ _ _ _ _=>(Z3 Zy (Qc (Ze Zj (Ze (Zo op_addU Zj (Zo op_modU (pv 1) Zj)) Zf))) (Qt call_ty_int (by rfl) M.b_int Zcs (Ze (Qv (op_eqU hu) (pv 0) (Zo op_modU (Zo op_addU (pv 2) Zj) (Yc (call_lenU) (by rfl) M.b_len Yz (Ze (pv 3) Zf))) (Yj _)) Zf)) (λ _ _=>rfl))))
    (Zm (Zki Zj (Zkl (pv 3) (pv 7) Zfh))
    (Zn (Za0 (N:=["_law_k","_law_at"]) (l:=[none,some 7]) (i:=4) rfl Qj.nd rfl rfl ⟨rfl,by decide +kernel,by decide +kernel,by first | decide +kernel | rfl,⟨⟨rfl,Or.inl rfl,rfl⟩,True.intro⟩,by decide +kernel⟩ (Qz (by rfl) M.b_range (Ze (Yc (call_lenU) (by rfl) M.b_len Yz (Ze (pv 2) Zf)) Zf)) (λ _ _ _ _ _=>(Yh (i:=0) (show List.Nodup (["_law_k","_law_at"]:List Str) by decide +kernel) rfl (Or.inl rfl))) (λ _ _ _ _ _=>Xh) (λ _ _ _ _ _=>(Qt call_ty_int (by rfl) M.b_int Zcs (Ze (Qv (op_eqU hu) (pv 0) (pv 1) (Yj _)) Zf)))))))) Z9)
  · exact (Z8 (i:=4) Qj.nd rfl (Or.inl rfl) (Yd G__law_bought (hr.mono (by decide)) (by rfl) Ym (Ze (pv 1) (Ze (pv 3) (Ze (pv 4) (Ze (pv 2) (Ze (Zo op_addU Zj (Zo op_modU (Zo op_divU (pv 0) (Ws (by decide +kernel) (by decide) (by decide) (by decide))) Zj)) Zf)))))))
  · exact (Yt (Yu (op_eqU hu) (Yc (call_sumU rfl) (by rfl) M.b_sum Zlk (Ze (pv 4) Zf)) Zj (Yj _)) (Zn (Zki Zj (Zkl (pv 4) Zj Zfh))) Z9)
  · exact (Zx (Eg (Ze (Qt call_ty_tuple (by rfl) M.b_tuple U0 (Ze (pv 3) Zf)) (Ze (Qt call_ty_tuple (by rfl) M.b_tuple U0 (Ze (pv 4) Zf)) Zf)))))) (λ _ _ _ _ _ _ us hl=>match us,hl with | [_,_,_],_=>rfl)
abbrev Zd0:Stmt:=top 152
abbrev Zck:List Str:=["_law_script","_law_start","_law_most","_law_wares"]
theorem Jb:FnScope ["_law_script","_law_start","_law_most","_law_wares","_law_cell_here","_law_way","_law_shape_here","_law_book_here","_law_k","_law_j","_law_amounts"] Zck (Zq Zd0):=⟨rfl,rfl,rfl,by decide +kernel,rfl,by decide +kernel,by decide +kernel⟩
theorem Zra (M:Md K mg) (D:Df K mg "_law_book" Zd0) (G__law_cell:Fn P w K mg base CX0 "_law_cell" 1 Ha (Wn K)) (G__law_shape:Fn P w K mg base CX0 "_law_shape" 2 Zaq (Ew K)) (G__law_day:Fn P w K mg base CX0 "_law_day" 3 Zd7 (Zdo K)):Fn P w K mg base CX0 "_law_book" 4 Zck (Zbu K):=D.to (λ F =>
 F.okb (k:=3) Jb (λ vs _ _ _ h=>Zsn h) (λ cdv A outer s H vs Q E hr h=>by
  have hu:=hr.units
  obtain ⟨a0,a1,a2,a3,rfl,h⟩:=h
  refine ⟨Zbn K,?_,Zp8 h⟩
  refine X7 ?_ (X7 ?_ (X7 ?_ (X7 ?_ (X7 ?_ (Zg4 ?_)))))
  · exact ⟨Z8 (i:=4) Jb.nd rfl (Or.inl rfl) (Yd G__law_cell (hr.mono (by decide)) (by rfl) Ym (Ze (pv 0) (Ze (pv 1) Zf)))⟩
  · exact (Uo (i:=5) Jb.nd rfl (Or.inr rfl) (Zzl Zy (W3 (Ze Zj (Ze Zj (Ze Zj (Ze Zj (Ze Zj (Ze Zj (Ze Zj (Ze Zj (Ze Zj (Ze Zj Zf))))))))))) ⟨Zo op_modU (Zo op_divU (pv 4) Zj) Zj⟩ (λ _ _=>rfl)))
  · exact ⟨Z8 (i:=6) Jb.nd rfl (Or.inr rfl) (Yd G__law_shape (hr.mono (by decide)) (by rfl) Ym (Ze (pv 4) (Ze (Zo op_addU Zj (Zo op_modU (pv 4) (pv 3))) Zf)))⟩
  · exact ⟨Za0 (N:=["_law_k","_law_script","_law_start","_law_way","_law_shape_here"]) (l:=[none,some 0,some 1,some 5,some 6]) (i:=7) rfl Jb.nd rfl rfl ⟨rfl,by decide +kernel,by decide +kernel,by first | decide +kernel | rfl,⟨⟨rfl,Or.inl rfl,rfl⟩,⟨⟨rfl,Or.inl rfl,rfl⟩,⟨⟨rfl,Or.inl rfl,rfl⟩,⟨⟨rfl,Or.inl rfl,rfl⟩,True.intro⟩⟩⟩⟩,by decide +kernel⟩ (Qz (by rfl) M.b_range (Ze (Zo op_addU Zj (Zo op_modU (Zo op_divU (pv 4) Zj) (pv 2))) Zf)) (λ _ _ _ _ _=>(Yh (i:=0) (show List.Nodup (["_law_k","_law_script","_law_start","_law_way","_law_shape_here"]:List Str) by decide +kernel) rfl (Or.inl rfl))) (λ _ _ _ _ _=>Xh) (λ _ _ _ _ _=>(Yd G__law_day (hr.mono (by decide)) (by rfl) Ym (Ze (Yd G__law_cell (hr.mono (by decide)) (by rfl) Ym (Ze (pv 1) (Ze (Zo op_addU (Zo op_addU (pv 2) Zj) (pv 0)) Zf))) (Ze (pv 3) (Ze (pv 4) Zf)))))⟩
  · exact ⟨Yt (Yu (op_eqU hu) (Zo op_modU (Zo op_divU (pv 4) Zj) Zj) Zj (Yj _)) (Zm (Z8 (i:=8) Jb.nd rfl (Or.inl rfl) (Zo op_modU (Zo op_divU (pv 4) Zj) (Yc (call_lenU) (by rfl) M.b_len Yz (Ze (pv 7) Zf))))
    (Zm (Z8 (i:=9) Jb.nd rfl (Or.inl rfl) (Zo op_modU (Zo op_divU (pv 4) Zj) (Yc (call_lenU) (by rfl) M.b_len Yz (Ze (pv 6) Zf))))
    (Zm (Z8 (i:=10) Jb.nd rfl (Or.inl rfl) (Zo op_addU (Zo op_addU (Zqh sl_U (Z3 Zy (Z3 Zy (pv 7) (pv 8) (λ _ _=>rfl)) Zj (λ _ _=>rfl)) Zst (Zss (pv 9))) (Eg (Ze (Zo op_addU (Z3 Zy (Z3 Zy (Z3 Zy (pv 7) (pv 8) (λ _ _=>rfl)) Zj (λ _ _=>rfl)) (pv 9) (λ _ _=>rfl)) Zj) Zf))) (Zqh sl_U (Z3 Zy (Z3 Zy (pv 7) (pv 8) (λ _ _=>rfl)) Zj (λ _ _=>rfl)) (Zss (Zo op_addU (pv 9) Zj)) Zst)))
    (Zn (Zki (Eg (Ze (Z3 Zy (Z3 Zy (pv 7) (pv 8) (λ _ _=>rfl)) Zj (λ _ _=>rfl)) (Ze (pv 10) Zf))) (Zkl (pv 7) (pv 8) Zfh)))))) Z9⟩
  · exact ⟨Zx (Qt call_ty_tuple (by rfl) M.b_tuple U0 (Ze (pv 7) Zf))⟩)) (λ _ _ _ _ _ _ us hl=>match us,hl with | [_,_,_,_],_=>rfl)
abbrev Zdy:Stmt:=top 153
abbrev Zcj:List Str:=["_law_book_here","_law_day_here","_law_other"]
theorem Zpt:FnScope ["_law_book_here","_law_day_here","_law_other"] Zcj (Zq Zdy):=⟨rfl,rfl,rfl,by decide +kernel,rfl,by decide +kernel,by decide +kernel⟩
theorem Zq8 (M:Md K mg) (D:Df K mg "_law_cost" Zdy)  : Fn P w K mg base CX0 "_law_cost" 1 Zcj (V0 K):=D.to (λ F =>
 F.ok (k:=0) Zpt (λ vs _ _ _ h=>Jx h) (λ cdv A outer s H vs Q E hr h=>by
  have hu:=hr.units
  obtain ⟨a0,a1,a2,rfl,h⟩:=h
  refine ⟨Zbl K,?_,Zp6 h⟩
  refine Zn ?_
  exact (Zx (Yc (call_sumU rfl) (by rfl) M.b_sum Zlk (Ze (X4 (N:=["_law_price_here","_law_amount"]) (l:=[none,none]) rfl ⟨rfl,by decide +kernel,by decide +kernel,by first | decide +kernel | rfl,  True.intro,by decide +kernel⟩ (Zm2 (by rfl) M.b_zip (Ze (Z3 Zy (Z3 Zy (pv 0) (pv 1) (λ _ _=>rfl)) Zj (λ _ _=>rfl)) (Ze (Z3 Zy (Z3 Zy (pv 0) (pv 2) (λ _ _=>rfl)) Zj (λ _ _=>rfl)) Zf))) (λ _ _ _ _ _=>(Zkk rfl (Wg (Yh (i:=0) (show List.Nodup (["_law_price_here","_law_amount"]:List Str) by decide +kernel) rfl (Or.inl rfl)) (Wg (Yh (i:=1) (show List.Nodup (["_law_price_here","_law_amount"]:List Str) by decide +kernel) rfl (Or.inl rfl)) Zeo)))) (λ _ _ _ _ _=>Xh) (λ _ _ _ _ _=>(Zo op_mulU (pv 0) (pv 1)))) Zf))))) (λ _ _ _ _ _ _ us hl=>match us,hl with | [_,_,_],_=>rfl)
abbrev Gd:Stmt:=top 154
abbrev Ue:List Str:=["_law_desk","_law_row"]
theorem Xk:FnScope ["_law_desk","_law_row","_law_found","error","_law_kinds","_law_kind"] Ue (Zq Gd):=⟨rfl,rfl,rfl,by decide +kernel,rfl,by decide +kernel,by decide +kernel⟩
theorem Zk6 (M:Md K mg) (D:Df K mg "_law_refused" Gd) (G_Desk_say:FnM P w K mg base (CXr P w base) (clsA mg "Desk") "say" 9 Kp (Xg K mg)):Fn P w K mg base CX0 "_law_refused" 10 Ue (Xj K mg):=D.to (λ F =>
 F.ok (k:=9) Xk (λ vs _ _ _ h=>Q5 h) (λ cdv A outer s H vs Q E hr h=>by
  have hu:=hr.units
  obtain ⟨a0,a1,rfl,h⟩:=h
  refine ⟨Vo K mg,?_,Zka M h⟩
  refine Zm ?_ (Zm ?_ (Zm ?_ (Zn ?_)))
  · exact (Z8 (i:=2) Xk.nd rfl (Or.inl rfl) Zi)
  · exact (Zz5 rfl rfl (Zsr M.o_Desk G_Desk_say (hr.mono (by decide)) (λ _=>(pv 0)) (λ _=>(Ze (pv 1) Zf))) (Zkz M.x_NoRow (by rfl) (λ _=>(Zn (Z8 (i:=2) Xk.nd rfl (Or.inl rfl) Zi))) (Zkz M.x_NoName (by rfl) (λ _=>(Zn (Z8 (i:=2) Xk.nd rfl (Or.inl rfl) Zi))) (Zkz M.x_NoText (by rfl) (λ _=>(Zn (Z8 (i:=2) Xk.nd rfl (Or.inl rfl) Zi))) (Zkz M.x_Twice (by rfl) (λ _=>(Zn (Z8 (i:=2) Xk.nd rfl (Or.inl rfl) Zi))) (Zkz M.x_NoBook (by rfl) (λ _=>(Zn (Z8 (i:=2) Xk.nd rfl (Or.inl rfl) Zi))) Hnd.nil))))))
  · exact (Zz4 (ts:=λ e'=>(Zv (Z6 (Zow [((tC (.str "row")),(tCB (Qg K) (Za (Zc 3) (Za (tC (.ref (clsA mg "NoRow"))) Zg)))),((tC (.str "name")),(tCB (Qg K) (Za (Zc 3) (Za (tC (.ref (clsA mg "NoName"))) Zg))))]) (Zt 4))
  (Zv (Zaz (Zc 4) (tC (.str "text")) (tCB (Qg K) (Za (Zc 3) (Za (tC (.ref (clsA mg "NoText"))) Zg))))
  (Zv (Zaz (Zc 4) (tC (.str "twice")) (tCB (Qg K) (Za (Zc 3) (Za (tC (.ref (clsA mg "Twice"))) Zg))))
  (Zv (Zaz (Zc 4) (tC (.str "book")) (tCB (Qg K) (Za (Zc 3) (Za (tC (.ref (clsA mg "NoBook"))) Zg))))
  (Zv (Y0 (tOr (Kf (Ua K (tCB (Qg K) (Za (Zc 3) (Za (tC (.ty "ValueError")) Zg))))) (Ua K (tCB (Qg K) (Za (Zc 3) (Za (Vt (Za (tC (.ref (clsA mg "NoDay"))) (Za (tC (.ref (clsA mg "NoTaste"))) Zg))) Zg))))) (Zz (tC (.str "other"))) Yl)
  (Zv (Zov e' 4 (Zt 5) (Y0 (Y4 (tOp (rNeU K) (Zju (Zc 4) (Zc 5)) (tOp (rEqU K) (Zc 5) (Zc 2)))) (Zz (tC (.str "other"))) Yl))
  (Zz (Zc 2))))))))) (i:=3) Xk.nd rfl rfl rfl rfl (Zsr M.o_Desk G_Desk_say (hr.mono (by decide)) (λ _=>(pv 0)) (λ _=>(Ze (pv 1) Zf))) M.x_TasteError (by rfl) (λ e'=>(Zm (Z8 (i:=4) Xk.nd rfl (Or.inl rfl) (Z0c (Zqg Zi (Yc Ju (by rfl) M.b_isinstance Xz (Ze (pv 3) (Ze (Gy M.x_NoRow) Zf))) (Zqg Zi (Yc Ju (by rfl) M.b_isinstance Xz (Ze (pv 3) (Ze (Gy M.x_NoName) Zf))) Zz7)) rfl rfl (by simp) (by decide)))
   (Zm (Zh4 (hu1 hu) (pv 4) Zi (Yc Ju (by rfl) M.b_isinstance Xz (Ze (pv 3) (Ze (Gy M.x_NoText) Zf))) rfl)
   (Zm (Zh4 (hu1 hu) (pv 4) Zi (Yc Ju (by rfl) M.b_isinstance Xz (Ze (pv 3) (Ze (Gy M.x_Twice) Zf))) rfl)
   (Zm (Zh4 (hu1 hu) (pv 4) Zi (Yc Ju (by rfl) M.b_isinstance Xz (Ze (pv 3) (Ze (Gy M.x_NoBook) Zf))) rfl)
   (Zm (Yt (PW.pt (Zkh (Wq (Wd (Yc Ju (by rfl) M.b_isinstance Xz (Ze (pv 3) (Ze (Zkm M.b_ValueError Zoq) Zf))) (λ _=>rfl))) (Zhj (Wd (Yc Ju (by rfl) M.b_isinstance Xz (Ze (pv 3) (Ze (Eg (Ze (Gy M.x_NoDay) (Ze (Gy M.x_NoTaste) Zf))) Zf))) (λ _=>rfl))))) (Zn (Zx Zi)) Z9)
   (Zm (Zz6 PassesOwn.never rfl (pv 4) (Yh (i:=5) Xk.nd rfl (Or.inl rfl)) (Zn (Yt (Yu (op_neU hu) (Z0d (hu1 hu) (pv 4) (pv 5) (λ _ _=>rfl)) (Qv (op_eqU hu) (pv 5) (pv 2) (Yj _)) (Yj _)) (Zn (Zx Zi)) Z9)))
   (Zn (Zx (pv 2)))))))))))
  · exact (Zx Zi))) (λ _ _ _ _ _ _ us hl=>match us,hl with | [_,_],_=>rfl)
abbrev Zdw:Stmt:=top 155
abbrev V6:List Str:=["_law_day_here"]
theorem Zpr:FnScope ["_law_day_here"] V6 (Zq Zdw):=⟨rfl,rfl,rfl,by decide +kernel,rfl,by decide +kernel,by decide +kernel⟩
theorem Zq6 (M:Md K mg) (D:Df K mg "_law_text" Zdw)  : Fn P w K mg base CX0 "_law_text" 1 V6 (Jp K):=D.to (λ F =>
 F.ok (k:=0) Zpr (λ vs _ _ _ h=>Yr h) (λ cdv A outer s H vs Q E hr h=>by
  have hu:=hr.units
  obtain ⟨a0,rfl,h⟩:=h
  refine ⟨Zbj K,?_,Zp4 h⟩
  refine Zn ?_
  exact (Zx (We PySem.F.plainAttrs_str PySem.F.slot_str_join PySem.F.type_str_join Zer Zi (Ze (X4 (N:=["_law_price_here","_law_amount"]) (l:=[none,none]) rfl ⟨rfl,by decide +kernel,by decide +kernel,by first | decide +kernel | rfl,  True.intro,by decide +kernel⟩ (Zm2 (by rfl) M.b_zip (Ze (Z3 Zy (pv 0) Zj (λ _ _=>rfl)) (Ze (Z3 Zy (pv 0) Zj (λ _ _=>rfl)) Zf))) (λ _ _ _ _ _=>(Zkk rfl (Wg (Yh (i:=0) (show List.Nodup (["_law_price_here","_law_amount"]:List Str) by decide +kernel) rfl (Or.inl rfl)) (Wg (Yh (i:=1) (show List.Nodup (["_law_price_here","_law_amount"]:List Str) by decide +kernel) rfl (Or.inl rfl)) Zeo)))) (λ _ _ _ _ _=>Xh) (λ _ _ _ _ _=>(Zo Yb (Zo Yb (Qt Eh (by rfl) M.b_str Zhs (Ze (pv 1) Zf)) Zi) (Qt Eh (by rfl) M.b_str Zhs (Ze (pv 0) Zf))))) Zf))))) (λ _ _ _ _ _ _ us hl=>match us,hl with | [_],_=>rfl)
abbrev Zag:Stmt:=top 156
abbrev Gr:List Str:=["_law_cell_here"]
theorem Jg:FnScope ["_law_cell_here","_law_some"] Gr (Zq Zag):=⟨rfl,rfl,rfl,by decide +kernel,rfl,by decide +kernel,by decide +kernel⟩
theorem Zmw (M:Md K mg) (D:Df K mg "_law_no_row" Zag)  : Fn P w K mg base CX0 "_law_no_row" 1 Gr (Hu K):=D.to (λ F =>
 F.okb (k:=0) Jg (λ vs _ _ _ h=>Yr h) (λ cdv A outer s H vs Q E hr h=>by
  have hu:=hr.units
  obtain ⟨a0,rfl,h⟩:=h
  refine ⟨Hm K,?_,Zmd h⟩
  refine X7 ?_ (X7 ?_ (X7 ?_ (X7 ?_ (X7 ?_ (Zg4 ?_)))))
  · exact (Uo (i:=1) Jg.nd rfl (Or.inl rfl) (W3 (Ze Zi (Ze Zi (Ze Zi (Ze Zi (Ze Zi (Ze Zi (Ze Zi (Ze Zi (Ze Zi (Ze Zi (Ze Zi (Ze Zi Zf))))))))))))))
  · exact (Uo (i:=1) Jg.nd rfl (Or.inl rfl) (Zia op_addU ⟨pv 1⟩ (W3 (Ze Zi (Ze Zi (Ze Zi (Ze Zi (Ze Zi (Ze Zi (Ze Zi (Ze Zi (Ze Zi Zf))))))))))))
  · exact (Uo (i:=1) Jg.nd rfl (Or.inl rfl) (Zia op_addU ⟨pv 1⟩ (W3 (Ze Zi (Ze Zi (Ze Zi (Ze Zi (Ze Zi (Ze Zi (Ze Zi (Ze Zi (Ze Zi (Ze Zi Zf)))))))))))))
  · exact (Uo (i:=1) Jg.nd rfl (Or.inl rfl) (Zia op_addU ⟨pv 1⟩ (W3 (Ze Zi (Ze Zi (Ze Zi (Ze Zi (Ze Zi (Ze Zi (Ze Zi Zf))))))))))
  · exact (Uo (i:=1) Jg.nd rfl (Or.inl rfl) (Zia op_addU ⟨pv 1⟩ (W3 (Ze Zi (Ze Zi (Ze Zi (Ze Zi (Ze Zi (Ze Zi (Ze Zi (Ze Zi (Ze Zi (Ze Zi Zf)))))))))))))
  · exact ⟨Zx (Z3 Zy (pv 1) (Zo op_modU (pv 0) Zj) (λ _ _=>rfl))⟩)) (λ _ _ _ _ _ _ us hl=>match us,hl with | [_],_=>rfl)
abbrev Gf:Stmt:=top 157
abbrev V8:List Str:=["_law_cell_here","_law_text_here"]
theorem Wb:FnScope ["_law_cell_here","_law_text_here","_law_wrong","_law_some"] V8 (Zq Gf):=⟨rfl,rfl,rfl,by decide +kernel,rfl,by decide +kernel,by decide +kernel⟩
theorem Zk8 (M:Md K mg) (D:Df K mg "_law_no_name" Gf)  : Fn P w K mg base CX0 "_law_no_name" 1 V8 (Vz K):=D.to (λ F =>
 F.okb (k:=0) Wb (λ vs _ _ _ h=>Q5 h) (λ cdv A outer s H vs Q E hr h=>by
  have hu:=hr.units
  obtain ⟨a0,a1,rfl,h⟩:=h
  refine ⟨Vq K,?_,Zkc h⟩
  refine X7 ?_ (X7 ?_ (X7 ?_ (X7 ?_ (Zg4 ?_))))
  · exact (Uo (i:=2) Wb.nd rfl (Or.inl rfl) (Zzl Zy (W3 (Ze Zi (Ze Zi (Ze Zi (Ze Zi (Ze Zi (Ze Zi (Ze Zi (Ze Zi Zf))))))))) ⟨Zo op_modU (pv 0) Zj⟩ (λ _ _=>rfl)))
  · exact (Uo (i:=3) Wb.nd rfl (Or.inl rfl) (W3 (Ze (Zo Yb Zi (pv 2)) (Ze (Zo Yb Zi (pv 2)) (Ze (Zo Yb (Zo Yb Zi (pv 2)) Zi) (Ze (Zo Yb (Zo Yb Zi (pv 2)) Zi) (Ze (Zo Yb Zi (pv 2)) Zf)))))))
  · exact (Uo (i:=3) Wb.nd rfl (Or.inl rfl) (Zia op_addU ⟨pv 3⟩ (W3 (Ze (Zo Yb (Zo Yb (Zo Yb Zi (pv 2)) Zi) (pv 2)) Zf))))
  · exact ⟨Yt (Yu Zt6 (Zo op_modU (pv 0) Zj) Zj (Yj _)) (Zn (Z8 (i:=3) Wb.nd rfl (Or.inl rfl) (Zo op_addU (pv 3) (Qc (Ze (Zo Yb (Zo Yb (Zo Yb Zi (pv 2)) Zi) (pv 1)) (Ze (Zo Yb (Zo Yb Zi (pv 2)) Zi) (Ze (Zo Yb (Zo Yb Zi (pv 2)) Zi) Zf))))))) Z9⟩
  · exact ⟨Zx (Z3 Zy (pv 3) (Zo op_modU (Zo op_divU (pv 0) Zj) (Yc (call_lenU) (by rfl) M.b_len Yz (Ze (pv 3) Zf))) (λ _ _=>rfl))⟩)) (λ _ _ _ _ _ _ us hl=>match us,hl with | [_,_],_=>rfl)
abbrev Ge:Stmt:=top 158
abbrev V7:List Str:=["_law_cell_here","_law_name","_law_text_here"]
theorem V2:FnScope ["_law_cell_here","_law_name","_law_text_here","_law_some"] V7 (Zq Ge):=⟨rfl,rfl,rfl,by decide +kernel,rfl,by decide +kernel,by decide +kernel⟩
theorem Zk7 (M:Md K mg) (D:Df K mg "_law_no_text" Ge)  : Fn P w K mg base CX0 "_law_no_text" 1 V7 (Vy K):=D.to (λ F =>
 F.okb (k:=0) V2 (λ vs _ _ _ h=>Jx h) (λ cdv A outer s H vs Q E hr h=>by
  have hu:=hr.units
  obtain ⟨a0,a1,a2,rfl,h⟩:=h
  refine ⟨Vp K,?_,Zkb h⟩
  refine X7 ?_ (X7 ?_ (Zg4 ?_))
  · exact (Uo (i:=3) V2.nd rfl (Or.inl rfl) (W3 (Ze Zi (Ze Zi (Ze Zi (Ze Zi (Ze Zi (Ze Zi (Ze Zi (Ze Zi (Ze Zi (Ze Zi (Ze (We PySem.F.plainAttrs_str PySem.F.slot_str_join PySem.F.type_str_join Zer Zi (Ze (Zo op_mulU (Qc (Ze Zi Zf)) Zj) Zf)) (Ze (Zo Yb (pv 2) Zi) Zf))))))))))))))
  · exact (Uo (i:=3) V2.nd rfl (Or.inl rfl) (Zia op_addU ⟨pv 3⟩ (W3 (Ze (Zo Yb Zi (pv 2)) (Ze (Zo Yb (pv 2) Zi) (Ze (Zo Yb Zi (pv 2)) (Ze (Zo Yb (pv 2) Zi) (Ze (Zo Yb (pv 2) Zi) (Ze (Zo Yb (Zo Z0h Zi Zj) Zi) Zf)))))))))
  · exact ⟨Zx (Zo Yb (Zo Yb (Zo Yb Zi (pv 1)) Zi) (Z3 Zy (pv 3) (Zo op_modU (pv 0) Zj) (λ _ _=>rfl)))⟩)) (λ _ _ _ _ _ _ us hl=>match us,hl with | [_,_,_],_=>rfl)
abbrev Zb7:Stmt:=top 159
abbrev Zas:List Str:=["_law_cell_here","_law_names","_law_day_here"]
theorem Zab:FnScope ["_law_cell_here","_law_names","_law_day_here","_law_text_here","_law_far"] Zas (Zq Zb7):=⟨rfl,rfl,rfl,by decide +kernel,rfl,by decide +kernel,by decide +kernel⟩
theorem Zol (M:Md K mg) (D:Df K mg "_law_cases" Zb7) (G__law_text:Fn P w K mg base CX0 "_law_text" 1 V6 (Jp K)) (G__law_no_row:Fn P w K mg base CX0 "_law_no_row" 1 Gr (Hu K)) (G__law_no_name:Fn P w K mg base CX0 "_law_no_name" 1 V8 (Vz K)) (G__law_no_text:Fn P w K mg base CX0 "_law_no_text" 1 V7 (Vy K)):Fn P w K mg base CX0 "_law_cases" 2 Zas (Ey K):=D.to (λ F =>
 F.okb (k:=1) Zab (λ vs _ _ _ h=>Jx h) (λ cdv A outer s H vs Q E hr h=>by
  have hu:=hr.units
  obtain ⟨a0,a1,a2,rfl,h⟩:=h
  refine ⟨Er K,?_,Zn8 h⟩
  refine X7 ?_ (X7 ?_ (Zg4 ?_))
  · exact ⟨Z8 (i:=3) Zab.nd rfl (Or.inl rfl) (Yd G__law_text (hr.mono (by decide)) (by rfl) Ym (Ze (pv 2) Zf))⟩
  · exact ⟨Z8 (i:=4) Zab.nd rfl (Or.inl rfl) (We PySem.F.plainAttrs_str PySem.F.slot_str_join PySem.F.type_str_join Zer Zi (Ze (Zo op_addU (X4 (N:=["_law_ware"]) (l:=[none]) rfl ⟨rfl,by decide +kernel,by decide +kernel,by first | decide +kernel | rfl,  True.intro,by decide +kernel⟩ (pi_seq (Z3 Zy (pv 2) Zj (λ _ _=>rfl))) (λ _ _ _ _ _=>(Yh (i:=0) (show List.Nodup (["_law_ware"]:List Str) by decide +kernel) rfl (Or.inl rfl))) (λ _ _ _ _ _=>Xh) (λ _ _ _ _ _=>Zi)) (Qc (Ze Zi Zf))) Zf))⟩
  · exact (Z1y (W3 (Ze (Qc (Ze Zi (Ze (Yd G__law_no_row (hr.mono (by decide)) (by rfl) Ym (Ze (Zo op_divU (pv 0) Zj) Zf)) Zf))) (Ze (Qc (Ze Zi (Ze (Yd G__law_no_name (hr.mono (by decide)) (by rfl) Ym (Ze (Zo op_divU (pv 0) Zj) (Ze (pv 3) Zf))) Zf))) (Ze (Qc (Ze Zi (Ze (Yd G__law_no_text (hr.mono (by decide)) (by rfl) Ym (Ze (Zo op_divU (pv 0) Zj) (Ze (Z3 Zy (Qc (Ze Zi (Ze (Z3 Zy (pv 1) (Zt5 Zpd Zj) (λ _ _=>rfl)) Zf))) (Zo op_modU (Zo op_divU (pv 0) Zj) Zj) (λ _ _=>rfl)) (Ze (pv 3) Zf)))) Zf))) (Ze (Qc (Ze Zi (Ze (Zo Yb (Zo Yb (Zo Yb Zi (Z3 Zy (pv 1) (Zo op_modU (Zo op_divU (pv 0) Zj) (Yc (call_lenU) (by rfl) M.b_len Yz (Ze (pv 1) Zf))) (λ _ _=>rfl))) Zi) (Z3 Zy (Qc (Ze (pv 3) (Ze (pv 4) Zf))) (Zo op_modU (Zo op_divU (pv 0) Zj) Zj) (λ _ _=>rfl))) Zf))) (Ze (Qc (Ze Zi (Ze (Zo Yb Zi (pv 4)) Zf))) Zf))))))))) (λ _ _ _ _ _ _ us hl=>match us,hl with | [_,_,_],_=>rfl)
abbrev Gb:Stmt:=top 160
abbrev V5:List Str:=["_law_cell_here","_law_text_here"]
theorem Wa:FnScope ["_law_cell_here","_law_text_here","_law_desk","_law_word","_law_row"] V5 (Zq Gb):=⟨rfl,rfl,rfl,by decide +kernel,rfl,by decide +kernel,by decide +kernel⟩
theorem Zk5 (M:Md K mg) (D:Df K mg "_law_without" Gb) (G_Desk_init:FnM P w K mg base CX0 (clsA mg "Desk") "__init__" 3 Hc (Wo K mg)) (G_Desk_say:FnM P w K mg base (CXr P w base) (clsA mg "Desk") "say" 9 Kp (Xg K mg)) (G__law_refused:Fn P w K mg base CX0 "_law_refused" 10 Ue (Xj K mg)):Fn P w K mg base CX0 "_law_without" 11 V5 (Vx K mg):=D.to (λ F =>
 F.ok (k:=10) Wa (λ vs _ _ _ h=>Q5 h) (λ cdv A outer s H vs Q E hr h=>by
  have hu:=hr.units
  obtain ⟨a0,a1,rfl,h⟩:=h
  refine ⟨Vn K mg,?_,Zj9 M h⟩
  refine Zm ?_ (Zm ?_ (Zm ?_ (Zm ?_ (Zn ?_))))
  · exact (Z8 (i:=2) Wa.nd rfl (Or.inl rfl) (Zji M.o_Desk G_Desk_init (hr.mono (by decide)) (by rfl) Ym))
  · exact (Z8 (i:=3) Wa.nd rfl (Or.inl rfl) (Z3 Zy (Qc (Ze Zi (Ze Zi (Ze Zi (Ze Zi (Ze Zi (Ze Zi Zf))))))) (Zo op_modU (pv 0) Zj) (λ _ _=>rfl)))
  · exact (Eb PassesOwn.never rfl (pi_seq (Qc (Ze Zi (Ze Zi (Ze Zi (Ze Zi (Ze (Zo Yb Zi (pv 3)) Zf))))))) (Yh (i:=4) Wa.nd rfl (Or.inl rfl)) (Zn (Yt (Yu (op_neU hu) (Yd G__law_refused (hr.mono (by decide)) (by rfl) Ym (Ze (pv 2) (Ze (pv 4) Zf))) Zi (Yj _)) (Zn (Zx Kz)) Z9)))
  · exact (Eb PassesOwn.never rfl (pi_seq (Qc (Ze Zi (Ze Zi (Ze Zi (Ze (Zo Yb Zi (pv 1)) Zf)))))) (Yh (i:=4) Wa.nd rfl (Or.inl rfl)) (Zn (Yt (Yu (op_neU hu) (Yd G__law_refused (hr.mono (by decide)) (by rfl) Ym (Ze (pv 2) (Ze (pv 4) Zf))) Zi (Yj _)) (Zn (Zx Kz)) Z9)))
  · exact (Zx (Uu (Qv (op_eqU hu) (Yd G__law_refused (hr.mono (by decide)) (by rfl) Ym (Ze (pv 2) (Ze Zi Zf))) Zi (Yj _)) (Us (Qv (op_eqU hu) (Qi M.o_Desk G_Desk_say (hr.mono (by decide)) Zep (pv 2) (Ze Zi Zf)) Zi (Yj _))))))) (λ _ _ _ _ _ _ us hl=>match us,hl with | [_,_],_=>rfl)
abbrev Zox:Stmt:=top 161
abbrev Zqf:List Str:=["_law_script"]
theorem W2:FnScope ["_law_script","_law_book_here","_law_names","_law_cell_here","_law_desk","_law_name","_law_day_here","_law_due","_law_kind","_law_row","_law_text_here","_law_k"] Zqf (Zq Zox):=⟨rfl,rfl,rfl,by decide +kernel,rfl,by decide +kernel,by decide +kernel⟩
theorem Z0u (M:Md K mg) {f:Addr} {fd:FuncData} (F:Fun K "law" "law" Zox f fd) (G_Desk_init:FnM P w K mg base CX0 (clsA mg "Desk") "__init__" 3 Hc (Wo K mg)) (G_Desk_say:FnM P w K mg base (CXr P w base) (clsA mg "Desk") "say" 9 Kp (Xg K mg)) (G__law_cell:Fn P w K mg base CX0 "_law_cell" 1 Ha (Wn K)) (G__law_book:Fn P w K mg base CX0 "_law_book" 4 Zck (Zbu K)) (G__law_cost:Fn P w K mg base CX0 "_law_cost" 1 Zcj (V0 K)) (G__law_refused:Fn P w K mg base CX0 "_law_refused" 10 Ue (Xj K mg)) (G__law_text:Fn P w K mg base CX0 "_law_text" 1 V6 (Jp K)) (G__law_cases:Fn P w K mg base CX0 "_law_cases" 2 Zas (Ey K)) (G__law_without:Fn P w K mg base CX0 "_law_without" 11 V5 (Vx K mg)):FnOk P w K mg base CX0 12 f fd Zqf (Z1v K mg) :=
 F.ok (k:=11) W2 (λ vs _ _ _ h=>Yr h) (λ cdv A outer s H vs Q E hr h=>by
  have hu:=hr.units
  obtain ⟨a0,rfl,h⟩:=h
  refine ⟨Zpf K mg,?_,Z10 M h⟩
  refine Zm ?_ (Zm ?_ (Zm ?_ (Zm ?_ (Zm ?_ (Zm ?_ (Zm ?_ (Zm ?_ (Zm ?_ (Zm ?_ (Zn ?_))))))))))
  · exact (Z8 (i:=1) W2.nd rfl (Or.inl rfl) (Yd G__law_book (hr.mono (by decide)) (by rfl) Ym (Ze (pv 0) (Ze Zj (Ze Zj (Ze Zj Zf))))))
  · exact (Za0 (N:=["_law_k"]) (l:=[none]) (i:=2) rfl W2.nd rfl rfl ⟨rfl,by decide +kernel,by decide +kernel,by first | decide +kernel | rfl,  True.intro,by decide +kernel⟩ (Qz (by rfl) M.b_range (Ze (Yc (call_lenU) (by rfl) M.b_len Yz (Ze (pv 1) Zf)) Zf)) (λ _ _ _ _ _=>(Yh (i:=0) (show List.Nodup (["_law_k"]:List Str) by decide +kernel) rfl (Or.inl rfl))) (λ _ _ _ _ _=>Xh) (λ _ _ _ _ _=>(Z3 Zy Zi (pv 0) (λ _ _=>rfl))))
  · exact (Z8 (i:=3) W2.nd rfl (Or.inl rfl) (Yd G__law_cell (hr.mono (by decide)) (by rfl) Ym (Ze (pv 0) (Ze Zj Zf))))
  · exact (Yt (Wq (Wd (Yd G__law_without (hr.mono (by decide)) (by rfl) Ym (Ze (pv 3) (Ze (Yd G__law_text (hr.mono (by decide)) (by rfl) Ym (Ze (Z3 Zy (pv 1) Zj (λ _ _=>rfl)) Zf)) Zf))) (λ _=>rfl))) (Zn (Zx Kz)) Z9)
  · exact (Z8 (i:=4) W2.nd rfl (Or.inl rfl) (Zji M.o_Desk G_Desk_init (hr.mono (by decide)) (by rfl) Ym))
  · exact (Eb PassesOwn.never rfl (Zyn (by rfl) M.b_zip (Ze (pv 2) (Ze (pv 1) Zf))) (Zkk rfl (Wg (Yh (i:=5) W2.nd rfl (Or.inl rfl)) (Wg (Yh (i:=6) W2.nd rfl (Or.inl rfl)) Zeo))) (Zn (Yt (Yu (op_neU hu) (Qi M.o_Desk G_Desk_say (hr.mono (by decide)) Zep (pv 4) (Ze (Zo Yb (Zo Yb (Zo Yb Zi (pv 5)) Zi) (Yd G__law_text (hr.mono (by decide)) (by rfl) Ym (Ze (pv 6) Zf))) Zf)) Zi (Yj _)) (Zn (Zx Kz)) Z9)))
  · exact (Z8 (i:=7) W2.nd rfl (Or.inl rfl) (Qt Eh (by rfl) M.b_str Zhs (Ze (Yd G__law_cost (hr.mono (by decide)) (by rfl) Ym (Ze (pv 1) (Ze Zj (Ze (Zo op_subU (Yc (call_lenU) (by rfl) M.b_len Yz (Ze (pv 1) Zf)) Zj) Zf)))) Zf)))
  · exact (Eb PassesOwn.never rfl (pi_seq (Yd G__law_cases (hr.mono (by decide)) (by rfl) Ym (Ze (pv 3) (Ze (pv 2) (Ze (Z3 Zy (pv 1) (Zt5 Zpd Zj) (λ _ _=>rfl)) Zf))))) (Zz9 rfl (Wg (Yh (i:=8) W2.nd rfl (Or.inl rfl)) (Wg (Yh (i:=9) W2.nd rfl (Or.inl rfl)) Zeo))) (Zm (Yt (PW.pt (Zkh (Yu (op_neU hu) (Yd G__law_refused (hr.mono (by decide)) (by rfl) Ym (Ze (pv 4) (Ze (pv 9) Zf))) (pv 8) (Yj _)) (Zhj (Yu (op_neU hu) (Qi M.o_Desk G_Desk_say (hr.mono (by decide)) Zep (pv 4) (Ze Zi Zf)) (We PySem.F.plainAttrs_str PySem.F.slot_str_join PySem.F.type_str_join Zer Zi (Ze (pv 2) Zf)) (Yj _))))) (Zn (Zx Kz)) Z9)
    (Zn (Yt (Yu (op_neU hu) (Qi M.o_Desk G_Desk_say (hr.mono (by decide)) Zep (pv 4) (Ze (Zo Yb Zi (Z3 Zy (pv 2) (Zt5 Zpd Zj) (λ _ _=>rfl))) Zf)) (pv 7) (Yj _)) (Zn (Zx Kz)) Z9))))
  · exact (Z8 (i:=10) W2.nd rfl (Or.inl rfl) (Yd G__law_text (hr.mono (by decide)) (by rfl) Ym (Ze (Z3 Zy (pv 1) Zj (λ _ _=>rfl)) Zf)))
  · exact (Eb PassesOwn.never rfl (Qz (by rfl) M.b_range (Ze (Zo op_subU Zj (Yc (call_lenU) (by rfl) M.b_len Yz (Ze (pv 1) Zf))) Zf)) (Yh (i:=11) W2.nd rfl (Or.inl rfl)) (Zn (Yt (Yu (op_neU hu) (Qi M.o_Desk G_Desk_say (hr.mono (by decide)) Zep (pv 4) (Ze (Zo Yb (Zo Yb (Zo Yb Zi (Z3 Zy (Qc (Ze Zi (Ze Zi (Ze Zi (Ze Zi (Ze Zi (Ze Zi (Ze Zi Zf)))))))) (pv 11) (λ _ _=>rfl))) Zi) (pv 10)) Zf)) Zi (Yj _)) (Zn (Zx Kz)) Z9)))
  · exact (Zx (Uu (Qv (op_eqU hu) (Yd G__law_refused (hr.mono (by decide)) (by rfl) Ym (Ze (pv 4) (Ze (Zo Yb Zi (pv 10)) Zf))) Zi (Yj _)) (Us (Qv (op_eqU hu) (Qi M.o_Desk G_Desk_say (hr.mono (by decide)) Zep (pv 4) (Ze Zi Zf)) (Qt Eh (by rfl) M.b_str Zhs (Ze (Yd G__law_cost (hr.mono (by decide)) (by rfl) Ym (Ze (pv 1) (Ze Zj (Ze Zj Zf)))) Zf)) (Yj _))))))
theorem Z2z:BdP "law" "law" Zox Zqf :=
 λ _ _ _ _ _ _ us hl=>match us,hl with | [_],_=>rfl
end
end K86
open K86
open PySem.Challenge renaming pw_tastesbook_k86_desk_refuses → PW9
open PySem PySem.W PyProof.Rows L2
set_option maxRecDepth 100000 in
set_option maxHeartbeats 0 in
theorem PySem.Challenge.cw_tastesbook_k86_desk_refuses_holds : PySem.Challenge.rw_tastesbook_k86_desk_refuses.Holds := by
 w_on; refine PySem.Challenge.op86 ?_
 k_fill
 refine L2.Zzp (l:=PySem.Challenge.rw_tastesbook_k86_desk_refuses) (x:="_law_script") 12 rfl rfl (by decide) (λ w h Y=>PySem.W.kIn_of Y) ?F
 case F =>
  intro w mg h KX G
  have W_o_Ledger:Own (KOf KX) mg "Ledger" (clsA mg "Ledger"):=by
   dsimp only [KOf]
   refine' Zvy KX G ?aC ?pg ?hd ?po ?sa ?mk ?kc ?ha ?hn ?htk ?hm
   case aC|pg|hd|po|sa|mk|kc|ha|hn|htk|hm=>k_is
  have W_o_Desk:Own (KOf KX) mg "Desk" (clsA mg "Desk"):=by
   dsimp only [KOf]
   refine' Zvy KX G ?aC ?pg ?hd ?po ?sa ?mk ?kc ?ha ?hn ?htk ?hm
   case aC|pg|hd|po|sa|mk|kc|ha|hn|htk|hm=>k_is
  have W_na_Ledger_kept:NoAttr (KOf KX) (clsA mg "Ledger") "kept":=by
   dsimp only [KOf]
   refine' Zsw KX G ?aC ?n
   case aC|n=>k_is
  have W_na_Desk_ledger:NoAttr (KOf KX) (clsA mg "Desk") "ledger":=by
   dsimp only [KOf]
   refine' Zsw KX G ?aC ?n
   case aC|n=>k_is
  have W_al_cost_days:mg "cost_days"=mg "cost":=by
   refine' Zyz KX G ?a ?b
   case a|b=>k_is
  have W_t_KINDS:Tbl (KOf KX) mg "KINDS" (Uk mg):=by
   dsimp only [KOf]
   refine' Zjt (names:=[("money","by_money"),("steady","by_steady"),("sums","by_sums"),("mix","by_mix"),("parts","by_parts"),("total","by_total")]) KX G ?a ?l ?hs ?r
   (case a=>k_is); (case l=>k_is); (case hs=>decide); (case r=>repeat' (first | exact KTD.Rows.nil | refine' KTD.Rows.cons rfl ⟨_,?_,rfl,?_⟩ ?_ | k_is))
  have W_t_ALONE:Tbl (KOf KX) mg "ALONE" (Ul mg):=by
   dsimp only [KOf]
   refine' Zjt (names:=[("days","shown_names"),("taste","shown_taste"),("cut","shown_cut"),("leave","shown_fewest"),("hands","shown_hands")]) KX G ?a ?l ?hs ?r
   (case a=>k_is); (case l=>k_is); (case hs=>decide); (case r=>repeat' (first | exact KTD.Rows.nil | refine' KTD.Rows.cons rfl ⟨_,?_,rfl,?_⟩ ?_ | k_is))
  have W_t_WITH_ONE:Tbl (KOf KX) mg "WITH_ONE" (Jo mg):=by
   dsimp only [KOf]
   refine' Zjt (names:=[("take","take_day"),("kind","shown_kind")]) KX G ?a ?l ?hs ?r
   (case a=>k_is); (case l=>k_is); (case hs=>decide); (case r=>repeat' (first | exact KTD.Rows.nil | refine' KTD.Rows.cons rfl ⟨_,?_,rfl,?_⟩ ?_ | k_is))
  have W_t_WITH_TWO:Tbl (KOf KX) mg "WITH_TWO" (Jm mg):=by
   dsimp only [KOf]
   refine' Zjt (names:=[("put","put_day"),("cost","shown_cost"),("better","shown_mark")]) KX G ?a ?l ?hs ?r
   (case a=>k_is); (case l=>k_is); (case hs=>decide); (case r=>repeat' (first | exact KTD.Rows.nil | refine' KTD.Rows.cons rfl ⟨_,?_,rfl,?_⟩ ?_ | k_is))
  have W_nc_taste_of:NoC (KOf KX) mg "taste_of":=by
   dsimp only [KOf]
   refine' Zkn KX G ?a ?k
   case a|k=>k_is
  have W_nc_cut_cuts:NoC (KOf KX) mg "cut_cuts":=by
   dsimp only [KOf]
   refine' Zkn KX G ?a ?k
   case a|k=>k_is
  have W_nc_fewest_leaving:NoC (KOf KX) mg "fewest_leaving":=by
   dsimp only [KOf]
   refine' Zkn KX G ?a ?k
   case a|k=>k_is
  have W_nc_two_hands_leaving:NoC (KOf KX) mg "two_hands_leaving":=by
   dsimp only [KOf]
   refine' Zkn KX G ?a ?k
   case a|k=>k_is
  obtain ⟨D_is_int,D_is_tuple,D_is_price,D_is_amount,D_are_prices,D_are_amounts,D_is_day,D_is_book,D_check,D_check_day,D_cost_at,D_cost,D_is_name,D_check_name⟩:Df (KOf KX) mg "is_int" Zi2/\Df (KOf KX) mg "is_tuple" Zfl/\Df (KOf KX) mg "is_price" Zfm/\Df (KOf KX) mg "is_amount" Zdu/\Df (KOf KX) mg "are_prices" Zb4/\Df (KOf KX) mg "are_amounts" Zaf/\Df (KOf KX) mg "is_day" Zi3/\Df (KOf KX) mg "is_book" Zhg/\Df (KOf KX) mg "check" Zl7/\Df (KOf KX) mg "check_day" Zdv/\Df (KOf KX) mg "cost_at" Zhh/\Df (KOf KX) mg "cost" Zpy/\Df (KOf KX) mg "is_name" Zhf/\Df (KOf KX) mg "check_name" Zb3:=by
   dsimp only [KOf]
   refine ⟨?_,?_,?_,?_,?_,?_,?_,?_,?_,?_,?_,?_,?_,?_⟩ <;> (refine' Zuo KX G ?a ?l ?c ?k; case a|l|c|k=>k_is)
  have D_Ledger_init:DfM (KOf KX) (clsA mg "Ledger") "__init__" "Ledger.__init__" Zaj:=by
   dsimp only [KOf]
   refine' Js KX G ?aC ?a ?i ?l ?c ?k
   case aC|a|i|l|c|k=>k_is
  have D_Ledger_put:DfM (KOf KX) (clsA mg "Ledger") "put" "Ledger.put" Zb8:=by
   dsimp only [KOf]
   refine' Js KX G ?aC ?a ?i ?l ?c ?k
   case aC|a|i|l|c|k=>k_is
  have D_Ledger_check_standing:DfM (KOf KX) (clsA mg "Ledger") "check_standing" "Ledger.check_standing" Jw:=by
   dsimp only [KOf]
   refine' Js KX G ?aC ?a ?i ?l ?c ?k
   case aC|a|i|l|c|k=>k_is
  have D_Ledger_take:DfM (KOf KX) (clsA mg "Ledger") "take" "Ledger.take" Zai:=by
   dsimp only [KOf]
   refine' Js KX G ?aC ?a ?i ?l ?c ?k
   case aC|a|i|l|c|k=>k_is
  have D_Ledger_names:DfM (KOf KX) (clsA mg "Ledger") "names" "Ledger.names" Gg:=by
   dsimp only [KOf]
   refine' Js KX G ?aC ?a ?i ?l ?c ?k
   case aC|a|i|l|c|k=>k_is
  have D_Ledger_book:DfM (KOf KX) (clsA mg "Ledger") "book" "Ledger.book" Zal:=by
   dsimp only [KOf]
   refine' Js KX G ?aC ?a ?i ?l ?c ?k
   case aC|a|i|l|c|k=>k_is
  have D_Ledger_number_of:DfM (KOf KX) (clsA mg "Ledger") "number_of" "Ledger.number_of" Ur:=by
   dsimp only [KOf]
   refine' Js KX G ?aC ?a ?i ?l ?c ?k
   case aC|a|i|l|c|k=>k_is
  have D_Ledger_names_of:DfM (KOf KX) (clsA mg "Ledger") "names_of" "Ledger.names_of" Zav:=by
   dsimp only [KOf]
   refine' Js KX G ?aC ?a ?i ?l ?c ?k
   case aC|a|i|l|c|k=>k_is
  have D_Ledger_cost:DfM (KOf KX) (clsA mg "Ledger") "cost" "Ledger.cost" Zak:=by
   dsimp only [KOf]
   refine' Js KX G ?aC ?a ?i ?l ?c ?k
   case aC|a|i|l|c|k=>k_is
  have D_Ledger_at_once:DfM (KOf KX) (clsA mg "Ledger") "at_once" "Ledger.at_once" Va:=by
   dsimp only [KOf]
   refine' Js KX G ?aC ?a ?i ?l ?c ?k
   case aC|a|i|l|c|k=>k_is
  have D_Ledger_taste:DfMD (KOf KX) (clsA mg "Ledger") "taste" "Ledger.taste" X3:=by
   dsimp only [KOf]
   refine' Z02 KX G ?aC ?a ?i ?l ?t ?c ?k
   case aC|a|i|l|t|c|k=>k_is
  have D_Ledger_cut:DfM (KOf KX) (clsA mg "Ledger") "cut" "Ledger.cut" Zb9:=by
   dsimp only [KOf]
   refine' Js KX G ?aC ?a ?i ?l ?c ?k
   case aC|a|i|l|c|k=>k_is
  have D_Ledger_fewest:DfM (KOf KX) (clsA mg "Ledger") "fewest" "Ledger.fewest" V3:=by
   dsimp only [KOf]
   refine' Js KX G ?aC ?a ?i ?l ?c ?k
   case aC|a|i|l|c|k=>k_is
  have D_Ledger_two_hands:DfM (KOf KX) (clsA mg "Ledger") "two_hands" "Ledger.two_hands" Uq:=by
   dsimp only [KOf]
   refine' Js KX G ?aC ?a ?i ?l ?c ?k
   case aC|a|i|l|c|k=>k_is
  obtain ⟨D_is_number,D_check_text,D_read_ware,D_read_day,D_listed,D_shown_names,D_shown_taste,D_shown_cut,D_shown_fewest,D_shown_hands,D_take_day,D_shown_kind,D_put_day,D_shown_cost,D_shown_mark,D_words_of⟩:Df (KOf KX) mg "is_number" Zdt/\Df (KOf KX) mg "check_text" Zb2/\Df (KOf KX) mg "read_ware" Zds/\Df (KOf KX) mg "read_day" Zfk/\Df (KOf KX) mg "listed" Zi1/\Df (KOf KX) mg "shown_names" Zad/\Df (KOf KX) mg "shown_taste" Zac/\Df (KOf KX) mg "shown_cut" Zdr/\Df (KOf KX) mg "shown_fewest" Ga/\Df (KOf KX) mg "shown_hands" Zae/\Df (KOf KX) mg "take_day" Zfj/\Df (KOf KX) mg "shown_kind" Zb0/\Df (KOf KX) mg "put_day" Zhe/\Df (KOf KX) mg "shown_cost" Zb1/\Df (KOf KX) mg "shown_mark" Zbz/\Df (KOf KX) mg "words_of" Zfi:=by
   dsimp only [KOf]
   refine ⟨?_,?_,?_,?_,?_,?_,?_,?_,?_,?_,?_,?_,?_,?_,?_,?_⟩ <;> (refine' Zuo KX G ?a ?l ?c ?k; case a|l|c|k=>k_is)
  have D_Desk_init:DfM (KOf KX) (clsA mg "Desk") "__init__" "Desk.__init__" Zd2:=by
   dsimp only [KOf]
   refine' Js KX G ?aC ?a ?i ?l ?c ?k
   case aC|a|i|l|c|k=>k_is
  have D_Desk_say:DfM (KOf KX) (clsA mg "Desk") "say" "Desk.say" Zfo:=by
   dsimp only [KOf]
   refine' Js KX G ?aC ?a ?i ?l ?c ?k
   case aC|a|i|l|c|k=>k_is
  obtain ⟨D__law_cell,D__law_next,D__law_shape,D__law_best,D__law_bought,D__law_price,D__law_day,D__law_book,D__law_cost,D__law_refused,D__law_text,D__law_no_row,D__law_no_name,D__law_no_text,D__law_cases,D__law_without,D_law⟩:Df (KOf KX) mg "_law_cell" Zdz/\Df (KOf KX) mg "_law_next" Zdx/\Df (KOf KX) mg "_law_shape" Zb5/\Df (KOf KX) mg "_law_best" Zd1/\Df (KOf KX) mg "_law_bought" Zah/\Df (KOf KX) mg "_law_price" Zb6/\Df (KOf KX) mg "_law_day" Zfn/\Df (KOf KX) mg "_law_book" Zd0/\Df (KOf KX) mg "_law_cost" Zdy/\Df (KOf KX) mg "_law_refused" Gd/\Df (KOf KX) mg "_law_text" Zdw/\Df (KOf KX) mg "_law_no_row" Zag/\Df (KOf KX) mg "_law_no_name" Gf/\Df (KOf KX) mg "_law_no_text" Ge/\Df (KOf KX) mg "_law_cases" Zb7/\Df (KOf KX) mg "_law_without" Gb/\Df (KOf KX) mg "law" Zox:=by
   dsimp only [KOf]
   refine ⟨?_,?_,?_,?_,?_,?_,?_,?_,?_,?_,?_,?_,?_,?_,?_,?_,?_⟩ <;> (refine' Zuo KX G ?a ?l ?c ?k; case a|l|c|k=>k_is)
  have M:Md (KOf KX) mg:=by
   dsimp only [KOf]
   apply Z3s KX G
   (case n_NoBook=>k_is); (case n_NoDay=>k_is); (case n_NoName=>k_is); (case n_NoRow=>k_is); (case n_NoTaste=>k_is); (case n_NoText=>k_is); (case n_TasteError=>k_is); (case n_Twice=>k_is); (case q_NoBook=>k_exc); (case q_NoDay=>k_exc); (case q_NoName=>k_exc); (case q_NoRow=>k_exc); (case q_NoTaste=>k_exc); (case q_NoText=>k_exc); (case q_TasteError=>k_exc); (case q_Twice=>k_exc); (case s_NoBook_NoBook=>k_is); (case s_NoBook_TasteError=>k_is); (case s_NoDay_NoDay=>k_is); (case s_NoDay_TasteError=>k_is); (case s_NoName_NoName=>k_is); (case s_NoName_TasteError=>k_is); (case s_NoRow_NoRow=>k_is); (case s_NoRow_TasteError=>k_is); (case s_NoTaste_NoTaste=>k_is); (case s_NoTaste_TasteError=>k_is); (case s_NoText_NoText=>k_is); (case s_NoText_TasteError=>k_is); (case s_TasteError_TasteError=>k_is); (case s_Twice_Twice=>k_is); (case s_Twice_TasteError=>k_is); (case v_NoBook=>kit_is); (case v_NoDay=>kit_is); (case v_NoName=>kit_is); (case v_NoRow=>kit_is); (case v_NoTaste=>kit_is); (case v_NoText=>kit_is); (case v_TasteError=>kit_is); (case v_Twice=>kit_is); (case ga_NoBook=>k_is); (case gn_NoBook=>k_is); (case be_NoBook=>k_is); (case at_NoBook=>k_is); (case gt_NoBook=>k_is); (case tk_NoBook=>k_is); (case ob_NoBook=>k_is); (case cl_NoBook=>k_is); (case j_NoBook_0=>kit_is); (case ky_NoBook_NoBook=>kit_is); (case ky_NoBook_Twice=>kit_is); (case ky_NoBook_NoText=>kit_is); (case ky_NoBook_NoName=>kit_is); (case ky_NoBook_NoRow=>kit_is); (case ga_NoDay=>k_is); (case gn_NoDay=>k_is); (case be_NoDay=>k_is); (case at_NoDay=>k_is); (case gt_NoDay=>k_is); (case tk_NoDay=>k_is); (case ob_NoDay=>k_is); (case cl_NoDay=>k_is); (case j_NoDay_0=>kit_is); (case ky_NoDay_NoBook=>kit_is); (case ky_NoDay_Twice=>kit_is); (case ky_NoDay_NoText=>kit_is); (case ky_NoDay_NoName=>kit_is); (case ky_NoDay_NoRow=>kit_is); (case ga_NoName=>k_is); (case gn_NoName=>k_is); (case be_NoName=>k_is); (case at_NoName=>k_is); (case gt_NoName=>k_is); (case tk_NoName=>k_is); (case ob_NoName=>k_is); (case cl_NoName=>k_is); (case j_NoName_0=>kit_is); (case ky_NoName_NoBook=>kit_is); (case ky_NoName_Twice=>kit_is); (case ky_NoName_NoText=>kit_is); (case ky_NoName_NoName=>kit_is); (case ky_NoName_NoRow=>kit_is); (case ga_NoRow=>k_is); (case gn_NoRow=>k_is); (case be_NoRow=>k_is); (case at_NoRow=>k_is); (case gt_NoRow=>k_is); (case tk_NoRow=>k_is); (case ob_NoRow=>k_is); (case cl_NoRow=>k_is); (case j_NoRow_0=>kit_is); (case ky_NoRow_NoBook=>kit_is); (case ky_NoRow_Twice=>kit_is); (case ky_NoRow_NoText=>kit_is); (case ky_NoRow_NoName=>kit_is); (case ky_NoRow_NoRow=>kit_is); (case ga_NoText=>k_is); (case gn_NoText=>k_is); (case be_NoText=>k_is); (case at_NoText=>k_is); (case gt_NoText=>k_is); (case tk_NoText=>k_is); (case ob_NoText=>k_is); (case cl_NoText=>k_is); (case j_NoText_0=>kit_is); (case ky_NoText_NoBook=>kit_is); (case ky_NoText_Twice=>kit_is); (case ky_NoText_NoText=>kit_is); (case ky_NoText_NoName=>kit_is); (case ky_NoText_NoRow=>kit_is); (case ga_Twice=>k_is); (case gn_Twice=>k_is); (case be_Twice=>k_is); (case at_Twice=>k_is); (case gt_Twice=>k_is); (case tk_Twice=>k_is); (case ob_Twice=>k_is); (case cl_Twice=>k_is); (case j_Twice_0=>kit_is); (case ky_Twice_NoBook=>kit_is); (case ky_Twice_Twice=>kit_is); (case ky_Twice_NoText=>kit_is); (case ky_Twice_NoName=>kit_is); (case ky_Twice_NoRow=>kit_is); (case nm_NoName_NoRow=>k_is); (case nm_NoText_NoRow=>k_is); (case nm_NoText_NoName=>k_is); (case nm_Twice_NoRow=>k_is); (case nm_Twice_NoName=>k_is); (case nm_Twice_NoText=>k_is); (case nm_NoBook_NoRow=>k_is); (case nm_NoBook_NoName=>k_is); (case nm_NoBook_NoText=>k_is); (case nm_NoBook_Twice=>k_is); (case z_ValueError=>k_is); (case z_all=>k_is); (case z_any=>k_is); (case z_bool=>k_is); (case z_int=>k_is); (case z_isinstance=>k_is); (case z_len=>k_is); (case z_list=>k_is); (case z_min=>k_is); (case z_range=>k_is); (case z_str=>k_is); (case z_sum=>k_is); (case z_tuple=>k_is); (case z_zip=>k_is); (case y_FIGURES=>k_is); (case y_HIGHEST_AMOUNT=>k_is); (case y_HIGHEST_PRICE=>k_is); (case y_LETTERS=>k_is); (case y_LONGEST_NAME=>k_is); (case y_MOST_DAYS=>k_is); (case y_MOST_FIGURES=>k_is); (case y_MOST_WARES=>k_is); (case y_NOTHING=>k_is); (case o_Ledger=>exact W_o_Ledger); (case o_Desk=>exact W_o_Desk); (case na_Ledger_kept=>exact W_na_Ledger_kept); (case na_Desk_ledger=>exact W_na_Desk_ledger); (case al_cost_days=>exact W_al_cost_days); (case t_KINDS=>exact W_t_KINDS); (case t_ALONE=>exact W_t_ALONE); (case t_WITH_ONE=>exact W_t_WITH_ONE); (case t_WITH_TWO=>exact W_t_WITH_TWO); (case nc_taste_of=>exact W_nc_taste_of); (case nc_cut_cuts=>exact W_nc_cut_cuts); (case nc_fewest_leaving=>exact W_nc_fewest_leaving); (case nc_two_hands_leaving=>exact W_nc_two_hands_leaving)
  obtain ⟨f,fd,F,hm⟩:=D_law
  refine ⟨f,fd,hm,F.bind1 Z2z,λ base kb nb=>?_⟩
  · have G_is_int:=Zww (P:=PW9) (w:=w) (base:=base) M D_is_int 
    have G_is_tuple:=Zse (P:=PW9) (w:=w) (base:=base) M D_is_tuple 
    have G_is_price:=Zsf (P:=PW9) (w:=w) (base:=base) M D_is_price G_is_int
    have G_is_amount:=Zq4 (P:=PW9) (w:=w) (base:=base) M D_is_amount G_is_int
    have G_are_prices:=Zoi (P:=PW9) (w:=w) (base:=base) M D_are_prices G_is_tuple G_is_price
    have G_are_amounts:=Zmv (P:=PW9) (w:=w) (base:=base) M D_are_amounts G_is_tuple G_is_amount
    have G_is_day:=Zwx (P:=PW9) (w:=w) (base:=base) M D_is_day G_is_tuple G_are_prices G_are_amounts
    have G_is_book:=Zul (P:=PW9) (w:=w) (base:=base) M D_is_book G_is_tuple G_is_day
    have G_check:=Zym (P:=PW9) (w:=w) (base:=base) M D_check G_is_book
    have G_check_day:=Zq5 (P:=PW9) (w:=w) (base:=base) M D_check_day 
    have G_cost_at:=Zum (P:=PW9) (w:=w) (base:=base) M D_cost_at 
    have G_cost:=Z0v (P:=PW9) (w:=w) (base:=base) M D_cost G_check_day G_cost_at
    have G_is_name:=Zuk (P:=PW9) (w:=w) (base:=base) M D_is_name 
    have G_check_name:=Zoh (P:=PW9) (w:=w) (base:=base) M D_check_name G_is_name
    have G_Ledger_init:=Zmz (P:=PW9) (w:=w) (base:=base) M D_Ledger_init 
    have G_Ledger_put:=Zom (P:=PW9) (w:=w) (base:=base) M D_Ledger_put G_check G_check_name
    have G_Ledger_check_standing:=Zcr (P:=PW9) (w:=w) (base:=base) M D_Ledger_check_standing 
    have G_Ledger_take:=Zmy (P:=PW9) (w:=w) (base:=base) M D_Ledger_take G_Ledger_check_standing
    have G_Ledger_names:=Zla (P:=PW9) (w:=w) (base:=base) M D_Ledger_names 
    have G_Ledger_book:=Zm1 (P:=PW9) (w:=w) (base:=base) M D_Ledger_book 
    have G_Ledger_number_of:=Zgm (P:=PW9) (w:=w) (base:=base) M D_Ledger_number_of G_Ledger_check_standing G_Ledger_names
    have G_Ledger_names_of:=Zhq (P:=PW9) (w:=w) (base:=base) M D_Ledger_names_of 
    have G_Ledger_cost:=Zm0 (P:=PW9) (w:=w) (base:=base) M D_Ledger_cost G_cost G_Ledger_book G_Ledger_number_of
    have G_Ledger_at_once:=Zif (P:=PW9) (w:=w) (base:=base) M D_Ledger_at_once G_Ledger_number_of
    have G_Ledger_taste:=Zk9 (P:=PW9) (w:=w) (base:=base) M D_Ledger_taste G_Ledger_book
    have G_Ledger_cut:=Zon (P:=PW9) (w:=w) (base:=base) M D_Ledger_cut G_Ledger_book
    have G_Ledger_fewest:=Zjf (P:=PW9) (w:=w) (base:=base) M D_Ledger_fewest G_Ledger_book G_Ledger_names_of
    have G_Ledger_two_hands:=Zgl (P:=PW9) (w:=w) (base:=base) M D_Ledger_two_hands G_Ledger_book
    have G_is_number:=Zq3 (P:=PW9) (w:=w) (base:=base) M D_is_number 
    have G_check_text:=Zog (P:=PW9) (w:=w) (base:=base) M D_check_text 
    have G_read_ware:=Zq2 (P:=PW9) (w:=w) (base:=base) M D_read_ware G_is_number G_check_text
    have G_read_day:=Zsd (P:=PW9) (w:=w) (base:=base) M D_read_day G_is_day G_check_text G_read_ware
    have G_listed:=Zwv (P:=PW9) (w:=w) (base:=base) M D_listed 
    have G_shown_names:=Zmt (P:=PW9) (w:=w) (base:=base) M D_shown_names G_Ledger_names G_listed
    have G_shown_taste:=Zms (P:=PW9) (w:=w) (base:=base) M D_shown_taste G_Ledger_taste
    have G_shown_cut:=Zq1 (P:=PW9) (w:=w) (base:=base) M D_shown_cut G_Ledger_cut
    have G_shown_fewest:=Zk4 (P:=PW9) (w:=w) (base:=base) M D_shown_fewest G_Ledger_fewest G_listed
    have G_shown_hands:=Zmu (P:=PW9) (w:=w) (base:=base) M D_shown_hands G_Ledger_two_hands
    have G_take_day:=Zsc (P:=PW9) (w:=w) (base:=base) M D_take_day G_Ledger_take
    have G_shown_kind:=Zoe (P:=PW9) (w:=w) (base:=base) M D_shown_kind G_Ledger_book
    have G_put_day:=Zui (P:=PW9) (w:=w) (base:=base) M D_put_day G_check_name G_Ledger_put G_read_day
    have G_shown_cost:=Zof (P:=PW9) (w:=w) (base:=base) M D_shown_cost G_Ledger_cost
    have G_shown_mark:=Zod (P:=PW9) (w:=w) (base:=base) M D_shown_mark G_Ledger_at_once
    have G_words_of:=Zsb (P:=PW9) (w:=w) (base:=base) M D_words_of 
    have G_Desk_init:=Zrc (P:=PW9) (w:=w) (base:=base) M D_Desk_init G_Ledger_init
    have G_Desk_say:=Zsh (P:=PW9) (w:=w) (base:=base) M D_Desk_say G_shown_names G_shown_taste G_shown_cut G_shown_fewest G_shown_hands G_take_day G_shown_kind G_put_day G_shown_cost G_shown_mark G_words_of
    have G__law_cell:=Zq9 (P:=PW9) (w:=w) (base:=base) M D__law_cell 
    have G__law_next:=Zq7 (P:=PW9) (w:=w) (base:=base) M D__law_next 
    have G__law_shape:=Zoj (P:=PW9) (w:=w) (base:=base) M D__law_shape G__law_next
    have G__law_best:=Zrb (P:=PW9) (w:=w) (base:=base) M D__law_best 
    have G__law_bought:=Zmx (P:=PW9) (w:=w) (base:=base) M D__law_bought G__law_best
    have G__law_price:=Zok (P:=PW9) (w:=w) (base:=base) M D__law_price 
    have G__law_day:=Zsg (P:=PW9) (w:=w) (base:=base) M D__law_day G__law_next G__law_bought G__law_price
    have G__law_book:=Zra (P:=PW9) (w:=w) (base:=base) M D__law_book G__law_cell G__law_shape G__law_day
    have G__law_cost:=Zq8 (P:=PW9) (w:=w) (base:=base) M D__law_cost 
    have G__law_refused:=Zk6 (P:=PW9) (w:=w) (base:=base) M D__law_refused G_Desk_say
    have G__law_text:=Zq6 (P:=PW9) (w:=w) (base:=base) M D__law_text 
    have G__law_no_row:=Zmw (P:=PW9) (w:=w) (base:=base) M D__law_no_row 
    have G__law_no_name:=Zk8 (P:=PW9) (w:=w) (base:=base) M D__law_no_name 
    have G__law_no_text:=Zk7 (P:=PW9) (w:=w) (base:=base) M D__law_no_text 
    have G__law_cases:=Zol (P:=PW9) (w:=w) (base:=base) M D__law_cases G__law_text G__law_no_row G__law_no_name G__law_no_text
    have G__law_without:=Zk5 (P:=PW9) (w:=w) (base:=base) M D__law_without G_Desk_init G_Desk_say G__law_refused
    exact Z0u M F G_Desk_init G_Desk_say G__law_cell G__law_book G__law_cost G__law_refused G__law_text G__law_cases G__law_without
