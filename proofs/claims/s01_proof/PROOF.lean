import PyProof.Rows.All
import Wide.All
import OpenK.AllK
import Wide.FinOn
import PyProof.EqAt
import PyProof.EqKinds
import PyProof.TupleCall
import KE.BitLaws
import Open.SpecLaws
import KE.OsHead
import KE.OsGo
import PySem.Challenge.RW_boxpages_s01_answers
set_option Elab.async false
set_option linter.all false
set_option maxRecDepth 100000
set_option maxHeartbeats 4000000
namespace Bp
theorem lR (a:Vamati.Item):(Vamati.numbersOf a).length=7:=rfl
theorem bH:∀ r:Vamati.Row,(r.flatMap Vamati.numbersOf).length=7 * r.length
 | []=>rfl
 | a::r=>by
  rw [List.flatMap_cons,List.length_append,bH r,lR,List.length_cons]
  omega
theorem lJ:∀ (r:Vamati.Row) (n:Nat),r.length<=n->Vamati.itemsOf n (r.flatMap Vamati.numbersOf)=some r
 | [],n,_=>by cases n<;>rfl
 | a::r,0,h=>by simp at h
 | a::r,n+1,h=>by
  have ih:=lJ r n (by simpa using h)
  rw [List.flatMap_cons]
  show (Vamati.itemsOf n (r.flatMap Vamati.numbersOf)).map _=_
  rw [ih]
  rfl
theorem iH:∀ (n:Nat) (l:List Int) (r:Vamati.Row),Vamati.itemsOf n l=some r->r.flatMap Vamati.numbersOf=l
 | n,[],r,h=>by
  have e:r=[]:=by cases n<;>exact (Option.some.inj h).symm
  subst e
  rfl
 | 0,_::_,r,h=>by cases h
 | n+1,x::l,r,h=>by
  match l,h with
  | h2::d::s::t::u::c::q,h=>
   have h:(Vamati.itemsOf n q).map (fun k=>({width:=x,height:=h2,depth:=d,space:=s,stretch:=t,shrink:=u,cost:=c}:Vamati.Item)::k)=some r:=h
   cases e:Vamati.itemsOf n q with
   | none=>rw [e] at h;cases h
   | some k=>
    rw [e] at h
    have ih:=iH n q k e
    have z:=Option.some.inj h
    subst z
    rw [List.flatMap_cons,ih]
    rfl
  | [],h=>cases h
  | [_],h=>cases h
  | [_,_],h=>cases h
  | [_,_,_],h=>cases h
  | [_,_,_,_],h=>cases h
  | [_,_,_,_,_],h=>cases h
theorem iX:∀ (k:Nat) (l:List Int),l.length=7 * k->∃ r:Vamati.Row,r.length=k/\r.flatMap Vamati.numbersOf=l
 | 0,l,h=>⟨[],rfl,by cases l with | nil=>rfl | cons a l=>simp at h⟩
 | k+1,l,h=>by
  match l,h with
  | w::h2::d::s::t::u::c::q,h=>
   obtain ⟨r,e1,e2⟩:=iX k q (by simp at h;omega)
   exact ⟨{width:=w,height:=h2,depth:=d,space:=s,stretch:=t,shrink:=u,cost:=c}::r,by simp [e1],by rw [List.flatMap_cons,e2];rfl⟩
  | [],h=>simp at h
  | [_],h=>simp at h;omega
  | [_,_],h=>simp at h;omega
  | [_,_,_],h=>simp at h;omega
  | [_,_,_,_],h=>simp at h;omega
  | [_,_,_,_,_],h=>simp at h;omega
  | [_,_,_,_,_,_],h=>simp at h;omega
def cp (l:List Int):Bool:=
 if (l.length:Int)<=4 then false
 else if l.getD 4 0=0 then (if (l.length:Int) - 6 >= 7 then decide (((l.length:Int) - 6) % 7=0) else false)
 else (if l.getD 4 0=1 then decide ((l.length:Int)=9) else false)
def para (b s u c f:Int)(r:Vamati.Row):Vamatk.Block:={before:=b,stretch:=s,shrink:=u,cost:=c,body:=.paragraph f r}
def disp (b s u c y w h d:Int):Vamatk.Block:={before:=b,stretch:=s,shrink:=u,cost:=c,body:=.display y w h d}
theorem aV (b s u c f:Int)(r:Vamati.Row):Vamatk.numbersOf (para b s u c f r)=b::s::u::c::0::f::r.flatMap Vamati.numbersOf:=rfl
theorem bc (b s u c y w h d:Int):Vamatk.numbersOf (disp b s u c y w h d)=[b,s,u,c,1,y,w,h,d]:=rfl
theorem iG (b s u c f:Int)(q:List Int):Vamatk.blockOf (b::s::u::c::0::f::q)=(match Vamati.itemsOf q.length q with
  | none=>none
  | some row=>if row.isEmpty=true then none else some (para b s u c f row)):=rfl
theorem k5 {b:Vamatk.Block}{l:List Int}(h:Vamatk.blockOf l=some b):Vamatk.numbersOf b=l:=by
 unfold Vamatk.blockOf at h
 split at h
 ·rename_i b0 s u c f q
  cases e:Vamati.itemsOf q.length q with
  | none=>rw [e] at h;cases h
  | some r=>
   rw [e] at h
   simp only at h
   split at h
   ·cases h
   ·have z:=Option.some.inj h
    subst z
    have:=iH _ _ _ e
    show _::_::_::_::0::f::r.flatMap Vamati.numbersOf=_
    rw [this]
 ·have z:=Option.some.inj h
  subst z
  rfl
 ·cases h
inductive Told:List Int->Vamatk.Block->Prop
 | para (b s u c f:Int) (r:Vamati.Row):r≠[]->Told (b::s::u::c::0::f::r.flatMap Vamati.numbersOf) (para b s u c f r)
 | disp (b s u c y w h d:Int):Told [b,s,u,c,1,y,w,h,d] (disp b s u c y w h d)
theorem Told.of {l:List Int}{b:Vamatk.Block}(t:Told l b):Vamatk.blockOf l=some b:=by
 cases t with
 | para b s u c f r hr=>
  rw [iG,lJ r _ (by rw [bH];omega)]
  simp only
  rw [if_neg (by simpa using hr)]
 | disp b s u c y w h d=>rfl
theorem Told.back {l:List Int}{b:Vamatk.Block}(t:Told l b):Vamatk.numbersOf b=l:=k5 t.of
theorem kv {l:List Int}{b:Vamatk.Block}(h:Vamatk.blockOf l=some b):Told l b:=by
 unfold Vamatk.blockOf at h
 split at h
 ·rename_i b0 s u c f q
  cases e:Vamati.itemsOf q.length q with
  | none=>rw [e] at h;cases h
  | some r=>
   rw [e] at h
   simp only at h
   split at h
   ·cases h
   ·rename_i hne
    have z:=Option.some.inj h
    subst z
    have:=iH _ _ _ e
    rw [<-this]
    exact .para _ _ _ _ _ _ (by simpa using hne)
 ·have z:=Option.some.inj h
  subst z
  exact .disp _ _ _ _ _ _ _ _
 ·cases h
theorem lm {l:List Int}(h:cp l=true):∃ b,Told l b:=by
 unfold cp at h
 split at h
 ·cases h
 ·rename_i h4
  match l,h4,h with
  | [],h4,_=>simp at h4
  | [_],h4,_=>simp at h4
  | [_,_],h4,_=>simp at h4
  | [_,_,_],h4,_=>simp at h4
  | [_,_,_,_],h4,_=>simp at h4
  | b::s::u::c::k::q,h4,h=>
   by_cases hk:k=0
   ·subst hk
    simp only [List.getD_cons_succ,List.getD_cons_zero,if_true] at h
    split at h
    ·rename_i h7
     match q,h7,h with
     | [],h7,_=>simp at h7
     | f::q,h7,h=>
      have h:=of_decide_eq_true h
      simp only [List.length_cons] at h h7
      obtain ⟨r,e1,e2⟩:=iX (q.length / 7) q (by omega)
      rw [<-e2]
      refine ⟨_,.para b s u c f r ?_⟩
      intro e
      subst e
      simp at e1
      omega
    ·cases h
   ·simp only [List.getD_cons_succ,List.getD_cons_zero,if_neg hk] at h
    split at h
    ·rename_i h1
     subst h1
     have h:=of_decide_eq_true h
     match q,h with
     | [y,w,hh,d],_=>exact ⟨_,.disp _ _ _ _ _ _ _ _⟩
     | [],h=>simp at h
     | [_],h=>simp at h
     | [_,_],h=>simp at h
     | [_,_,_],h=>simp at h
     | _::_::_::_::_::_,h=>simp at h;omega
    ·cases h
theorem ur {l:List Int}{b:Vamatk.Block}(t:Told l b):cp l=true:=by
 cases t with
 | para b s u c f r hr=>
  have hl:0 < r.length:=List.length_pos_iff.mpr hr
  unfold cp
  rw [if_neg (by simp only [List.length_cons];omega),if_pos (show (_::_::_::_::(0:Int)::_).getD 4 0=0 from rfl),if_pos (by simp only [List.length_cons,bH];omega)]
  exact decide_eq_true (by simp only [List.length_cons,bH];omega)
 | disp b s u c y w h d=>
  unfold cp
  rw [if_neg (by simp),if_neg (by simp),if_pos (show [b,s,u,c,1,y,w,h,d].getD 4 0=1 from rfl)]
  rfl
theorem vK (l:List Int):cp l=(Vamatk.blockOf l).isSome:=by
 cases e:Vamatk.blockOf l with
 | none=>
  cases h:cp l with
  | false=>rfl
  | true=>
   obtain ⟨b,t⟩:=lm h
   rw [t.of] at e
   cases e
 | some b=>exact ur (kv e)
def aK (ns:List Int)(rs:List (Int×Int)):Bool:=(ns.zip rs).all fun x=>Vamati.within x.2.1 x.2.2 x.1
theorem eN {a b n:Int}:Vamati.within a b n=true ↔ a<=n/\n<=b:=by
 unfold Vamati.within
 rw [Bool.and_eq_true,decide_eq_true_iff,decide_eq_true_iff]
def eT:List (Int×Int):=[(0,1000000),(0,1000000),(0,1000000),(-1,1000000)]
def bq:List (Int×Int):=[(0,100000000)]
def eK:List (Int×Int):=[(0,1000000),(-1000000,1000000),(-1000000,1000000),(0,1000000),(0,1000000),(0,1000000),(-1,1000000)]
def cP:List (Int×Int):=[(0,2),(0,1000000),(-1000000,1000000),(-1000000,1000000)]
def fh:List (Int×Int):=[(0,100000000),(0,100000000),(0,1000000),(0,1000000),(0,100000000),(-1,1000000)]
def aR (l:List Int):Bool:=if l.getD 5 0 > l.getD 3 0 then false else aK l eK
theorem lX (a:Vamati.Item):aR (Vamati.numbersOf a)=Vamati.good a:=by
 unfold aR Vamati.numbersOf
 simp only [List.getD_cons_succ,List.getD_cons_zero]
 by_cases h:a.shrink<=a.space
 ·rw [if_neg (Int.not_lt.mpr h),Bool.eq_iff_iff]
  simp only [aK,eK,Vamati.good,Vamati.MOST,List.zip_cons_cons,List.zip_nil_right,List.all_cons,List.all_nil,Bool.and_true,Bool.and_eq_true,decide_eq_true_iff]
  constructor
  ·rintro ⟨a1,a2,a3,a4,a5,a6,a7⟩
   exact ⟨a1,a4,a5,a6,h,a2,a3,a7⟩
  ·rintro ⟨a1,a4,a5,a6,_,a2,a3,a7⟩
   exact ⟨a1,a2,a3,a4,a5,a6,a7⟩
 ·rw [if_pos (Int.not_le.mp h)]
  unfold Vamati.good
  rw [decide_eq_false h]
  simp only [Bool.false_and,Bool.and_false]
def part (l:List Int)(i j:Nat):List Int:=(l.take j).drop i
def kz (l:List Int):List (List Int):=(List.range ((l.length - 6+6) / 7)).map fun i=>part l (6+7 * i) (6+7 * i+7)
theorem l9:∀ (r:Vamati.Row) (i:Nat) (a:Vamati.Item),r[i]?=some a->part (r.flatMap Vamati.numbersOf) (7 * i) (7 * i+7)=Vamati.numbersOf a
 | [],i,a,h=>by simp at h
 | b::r,0,a,h=>by
  have e:b=a:=by simpa using h
  subst e
  rfl
 | b::r,i+1,a,h=>by
  have ih:=l9 r i a (by simpa using h)
  unfold part at ih ⊢
  rw [List.flatMap_cons,List.take_append,List.drop_append]
  have hl:(Vamati.numbersOf b).length=7:=rfl
  have e1:7 * (i+1)+7 - 7=7 * i+7:=by omega
  have e2:List.drop (7 * (i+1)) (List.take (7 * (i+1)+7) (Vamati.numbersOf b))=[]:=by
   apply List.drop_eq_nil_of_le
   rw [List.length_take,hl]
   omega
  rw [e2,List.nil_append,hl,e1,List.length_take,hl]
  have e3:7 * (i+1) - min (7 * (i+1)+7) 7=7 * i:=by omega
  rw [e3]
  exact ih
theorem ip (b s u c k f:Int)(r:Vamati.Row):kz (b::s::u::c::k::f::r.flatMap Vamati.numbersOf)=r.map Vamati.numbersOf:=by
 unfold kz
 have hl:(b::s::u::c::k::f::r.flatMap Vamati.numbersOf).length=6+7 * r.length:=by simp only [List.length_cons,bH];omega
 have e:((b::s::u::c::k::f::r.flatMap Vamati.numbersOf).length - 6+6) / 7=r.length:=by rw [hl];omega
 rw [e]
 apply List.ext_getElem
 ·simp
 ·intro i h1 h2
  rw [List.getElem_map,List.getElem_map,List.getElem_range]
  have hi:i < r.length:=by simpa using h2
  rw [<-l9 r i r[i] (List.getElem?_eq_getElem hi)]
  have e1:6+7 * i=7 * i+6:=by omega
  have e2:7 * i+6+7=(7 * i+7)+6:=by omega
  unfold part
  rw [e1,e2]
  rfl
def bD (l:List Int):Bool:=if l.getD 2 0 > l.getD 0 0 then false else aK (part l 0 4) eT
def dw (l:List Int):Bool:=if aK (part l 5 6) bq=false then false else (kz l).all aR
def bm (l:List Int):Bool:=
 if bD l=false then false else if l.getD 4 0=0 then dw l else aK (l.drop 5) cP
theorem ib (l:List Int)(b s u c:Int)(q:List Int)(h:l=b::s::u::c::q):
  bD l=(Vamati.within 0 1000000 b&&(Vamati.within 0 1000000 s&&(Vamati.within 0 1000000 u&&(decide (u<=b)&&Vamati.within (-1) 1000000 c)))):=by
 subst h
 unfold bD part
 simp only [List.getD_cons_succ,List.getD_cons_zero]
 by_cases h:u<=b
 ·rw [if_neg (Int.not_lt.mpr h),Bool.eq_iff_iff]
  simp only [aK,eT,List.take_succ_cons,List.take_zero,List.drop_zero,List.zip_cons_cons,List.zip_nil_right,List.all_cons,List.all_nil,Bool.and_true,Bool.and_eq_true,decide_eq_true_iff]
  constructor
  ·rintro ⟨a1,a2,a3,a4⟩
   exact ⟨a1,a2,a3,h,a4⟩
  ·rintro ⟨a1,a2,a3,_,a4⟩
   exact ⟨a1,a2,a3,a4⟩
 ·rw [if_pos (Int.not_le.mp h),decide_eq_false h]
  simp only [Bool.false_and,Bool.and_false]
theorem lK {l:List Int}{b:Vamatk.Block}(t:Told l b):bm l=Vamatk.goodBlock b:=by
 unfold bm
 cases t with
 | para b s u c f r hr=>
  rw [ib _ b s u c _ rfl,if_pos (show (_::_::_::_::(0:Int)::_).getD 4 0=0 from rfl)]
  have e:dw (b::s::u::c::0::f::r.flatMap Vamati.numbersOf)=(Vamati.within 0 100000000 f&&r.all Vamati.good):=by
   unfold dw
   rw [ip,List.all_map]
   have e1:aK (part (b::s::u::c::0::f::r.flatMap Vamati.numbersOf) 5 6) bq=Vamati.within 0 100000000 f:=by
    show (Vamati.within 0 100000000 f&&true)=_
    rw [Bool.and_true]
   have e2:(aR ∘ Vamati.numbersOf)=Vamati.good:=by
    funext a
    exact lX a
   rw [e1,e2]
   cases Vamati.within 0 100000000 f<;>rfl
  rw [e]
  show _=(Vamati.within 0 1000000 b&&(Vamati.within 0 1000000 s&&(Vamati.within 0 1000000 u&&(decide (u<=b)&&(Vamati.within (-1) 1000000 c&&(Vamati.within 0 100000000 f&&r.all Vamati.good))))))
  cases Vamati.within 0 1000000 b<;>cases Vamati.within 0 1000000 s<;>cases Vamati.within 0 1000000 u<;>cases decide (u<=b)<;>cases Vamati.within (-1) 1000000 c<;>rfl
 | disp b s u c y w h d=>
  rw [ib _ b s u c _ rfl,if_neg (show ¬ [b,s,u,c,1,y,w,h,d].getD 4 0=0 by show ¬ (1:Int)=0;decide)]
  show _=(Vamati.within 0 1000000 b&&(Vamati.within 0 1000000 s&&(Vamati.within 0 1000000 u&&(decide (u<=b)&&(Vamati.within (-1) 1000000 c&&(Vamati.within 0 2 y&&(Vamati.within 0 1000000 w&&(Vamati.within (-1000000) 1000000 h&&Vamati.within (-1000000) 1000000 d))))))))
  have e:aK (List.drop 5 [b,s,u,c,1,y,w,h,d]) cP=(Vamati.within 0 2 y&&(Vamati.within 0 1000000 w&&(Vamati.within (-1000000) 1000000 h&&Vamati.within (-1000000) 1000000 d))):=by
   show (Vamati.within 0 2 y&&(Vamati.within 0 1000000 w&&(Vamati.within (-1000000) 1000000 h&&(Vamati.within (-1000000) 1000000 d&&true))))=_
   rw [Bool.and_true]
  rw [e]
  cases Vamati.within 0 1000000 b<;>cases Vamati.within 0 1000000 s<;>cases Vamati.within 0 1000000 u<;>cases decide (u<=b)<;>cases Vamati.within (-1) 1000000 c<;>rfl
def itemCount (l:List Int):Int:=if l.getD 4 0=0 then ((l.length:Int) - 6) / 7 else 0
theorem jr {l:List Int}{b:Vamatk.Block}(t:Told l b):itemCount l=(Vamatk.itemCount b:Int):=by
 unfold itemCount
 cases t with
 | para b s u c f r hr=>
  rw [if_pos (show (_::_::_::_::(0:Int)::_).getD 4 0=0 from rfl)]
  show _=(r.length:Int)
  simp only [List.length_cons,bH]
  omega
 | disp b s u c y w h d=>rw [if_neg (show ¬ [b,s,u,c,1,y,w,h,d].getD 4 0=0 by show ¬ (1:Int)=0;decide)];rfl
def de (ls:List (List Int)):Int:=(ls.map itemCount).sum
theorem i9:∀ (bs:List Vamatk.Block) (n:Nat),bs.foldl (fun (n:Nat) b=>n+Vamatk.itemCount b) n=n+Vamatk.itemsIn bs
 | [],n=>rfl
 | b::bs,n=>by
  have e:Vamatk.itemsIn (b::bs)=Vamatk.itemCount b+Vamatk.itemsIn bs:=by
   show bs.foldl _ (0+Vamatk.itemCount b)=_
   rw [i9 bs,Nat.zero_add]
  rw [e,List.foldl_cons,i9 bs]
  omega
theorem bo (b:Vamatk.Block)(bs:List Vamatk.Block):Vamatk.itemsIn (b::bs)=Vamatk.itemCount b+Vamatk.itemsIn bs:=by
 show bs.foldl _ (0+Vamatk.itemCount b)=_
 rw [i9 bs,Nat.zero_add]
theorem cx:∀ (bs cs:List Vamatk.Block),Vamatk.itemsIn (bs++cs)=Vamatk.itemsIn bs+Vamatk.itemsIn cs
 | [],cs=>by simp [Vamatk.itemsIn]
 | b::bs,cs=>by
  rw [List.cons_append,bo,bo,cx bs cs]
  omega
def Kept (ls:List (List Int))(bs:List Vamatk.Block):Prop:=ls=bs.map Vamatk.numbersOf/\∀ b∈bs,Vamatk.blockOf (Vamatk.numbersOf b)=some b
theorem Kept.total {ls:List (List Int)}{bs:List Vamatk.Block}(k:Kept ls bs):de ls=(Vamatk.itemsIn bs:Int):=by
 obtain ⟨rfl,h⟩:=k
 unfold de
 induction bs with
 | nil=>rfl
 | cons b bs ih=>
  rw [List.map_cons,List.map_cons,List.sum_cons,ih fun c hc=>h c (List.mem_cons_of_mem _ hc),bo,jr (kv (h b List.mem_cons_self))]
  omega
theorem Kept.length {ls:List (List Int)}{bs:List Vamatk.Block}(k:Kept ls bs):ls.length=bs.length:=by rw [k.1,List.length_map]
def aZ (l:List Int)(others:List (List Int)):Int:=
 if cp l=false then -1
 else if bm l=false then -2
 else if (others.length:Int)+1 > 60\/de others+itemCount l > 600 then -3 else 0
end Bp
namespace Bp
structure Sound (st:Vamatk.State):Prop where
 settings:Vamatk.goodSettings st.settings=true
 blocks:∀ b∈st.blocks,Vamatk.goodBlock b=true/\Vamatk.blockOf (Vamatk.numbersOf b)=some b
 many:st.blocks.length<=60
 items:Vamatk.itemsIn st.blocks<=600
theorem vC:Sound Vamatk.start:=⟨rfl,fun b h=>(by cases h),Nat.zero_le _,Nat.zero_le _⟩
theorem Sound.withBlock {st:Vamatk.State}(s:Sound st){l:List Int}{f:Vamatk.Block->List Vamatk.Block}(hf:∀ b x,x∈f b->x=b\/x∈st.blocks):Sound (Vamatk.withBlock st l f).1:=by
 unfold Vamatk.withBlock
 cases e:Vamatk.blockOf l with
 | none=>exact s
 | some b=>
  simp only
  split
  ·exact s
  ·rename_i hg
   split
   ·exact s
   ·rename_i hm
    refine ⟨s.settings,fun x hx=>?_,?_,?_⟩
    ·rcases hf b x hx with z | z
     ·subst z
      exact ⟨by simpa using hg,by rw [k5 e];exact e⟩
     ·exact s.blocks x z
    ·exact Nat.le_of_not_lt fun z=>hm (.inl z)
    ·exact Nat.le_of_not_lt fun z=>hm (.inr z)
theorem il:∀ (bs:List Vamatk.Block) (i:Nat),Vamatk.itemsIn (bs.eraseIdx i)<=Vamatk.itemsIn bs
 | [],_=>Nat.le_refl _
 | b::bs,0=>by
  rw [List.eraseIdx_cons_zero,bo]
  omega
 | b::bs,i+1=>by
  rw [List.eraseIdx_cons_succ,bo,bo]
  have:=il bs i
  omega
theorem gf {α:Type}:∀ (bs:List α) (i:Nat),bs.eraseIdx i=bs.take i++bs.drop (i+1)
 | [],i=>by simp
 | b::bs,0=>by simp
 | b::bs,i+1=>by
  rw [List.eraseIdx_cons_succ,gf bs i]
  rfl
theorem cU:∀ (bs:List Vamatk.Block) (i:Nat) (b:Vamatk.Block),bs[i]?=some b->Vamatk.itemsIn (bs.eraseIdx i)+Vamatk.itemCount b=Vamatk.itemsIn bs
 | [],i,b,h=>by simp at h
 | a::bs,0,b,h=>by
  have e:a=b:=by simpa using h
  subst e
  rw [List.eraseIdx_cons_zero,bo]
  omega
 | a::bs,i+1,b,h=>by
  rw [List.eraseIdx_cons_succ,bo,bo]
  have:=cU bs i b (by simpa using h)
  omega
theorem Sound.step {st:Vamatk.State}(s:Sound st)(c:Vamatk.Call):Sound (Vamatk.step st c).1:=by
 cases c with
 | settings m i l g p o=>
  unfold Vamatk.step
  simp only
  split
  ·rename_i h
   exact ⟨h,s.blocks,s.many,s.items⟩
  ·exact s
 | add l=>
  refine s.withBlock fun b x hx=>?_
  rcases List.mem_append.mp hx with z | z
  ·exact .inr z
  ·exact .inl (by simpa using z)
 | put i l=>
  unfold Vamatk.step
  simp only
  split
  ·exact s
  ·refine s.withBlock fun b x hx=>?_
   rcases List.mem_append.mp hx with z | z
   ·exact .inr (List.mem_of_mem_take z)
   ·rcases List.mem_cons.mp z with z | z
    ·exact .inl z
    ·exact .inr (List.mem_of_mem_drop z)
 | change i l=>
  unfold Vamatk.step
  simp only
  split
  ·exact s
  ·refine s.withBlock fun b x hx=>?_
   rcases List.mem_or_eq_of_mem_set hx with z | z
   ·exact .inr z
   ·exact .inl z
 | take i=>
  unfold Vamatk.step
  simp only
  split
  ·exact s
  ·refine ⟨s.settings,fun x hx=>s.blocks x (List.mem_of_mem_eraseIdx hx),?_,?_⟩
   ·exact Nat.le_trans (List.length_eraseIdx_le ..) s.many
   ·exact Nat.le_trans (il _ _) s.items
 | move i j=>
  unfold Vamatk.step
  simp only
  split
  ·exact s
  ·unfold Vamatk.movedBlock
   cases e:st.blocks[i.toNat]? with
   | none=>exact s
   | some b=>
    simp only
    have hi:=(List.getElem?_eq_some_iff.mp e).1
    refine ⟨s.settings,fun x hx=>?_,?_,?_⟩
    ·have hx:x∈(st.blocks.eraseIdx i.toNat).take j.toNat++b::(st.blocks.eraseIdx i.toNat).drop j.toNat:=hx
     rcases List.mem_append.mp hx with z | z
     ·exact s.blocks x (List.mem_of_mem_eraseIdx (List.mem_of_mem_take z))
     ·rcases List.mem_cons.mp z with z | z
      ·subst z
       exact s.blocks _ (List.mem_of_getElem? e)
      ·exact s.blocks x (List.mem_of_mem_eraseIdx (List.mem_of_mem_drop z))
    ·show ((st.blocks.eraseIdx i.toNat).take j.toNat++b::(st.blocks.eraseIdx i.toNat).drop j.toNat).length<=60
     have h1:=s.many
     have h2:=List.length_eraseIdx_of_lt hi
     rw [List.length_append,List.length_cons,List.length_take,List.length_drop]
     omega
    ·show Vamatk.itemsIn ((st.blocks.eraseIdx i.toNat).take j.toNat++b::(st.blocks.eraseIdx i.toNat).drop j.toNat)<=600
     have h1:=s.items
     have h2:=cU st.blocks i.toNat b e
     have h3:=cx ((st.blocks.eraseIdx i.toNat).take j.toNat) ((st.blocks.eraseIdx i.toNat).drop j.toNat)
     rw [List.take_append_drop] at h3
     rw [cx,bo]
     omega
 | block i=>exact s
 | lines=>exact s
 | pages=>exact s
 | worth=>exact s
 | place i k=>exact s
 | places i=>exact s
 | at_ p x y=>exact s
 | count=>exact s
inductive Head:List Int->List (List Int)->List Int->Prop
 | nums (p:Int) (xs t:List Int):PyVamatk.shape p=some (xs.length,0)->Head (p::(xs++t)) [p::xs] t
 | row (p:Int) (xs row t:List Int):PyVamatk.shape p=some (xs.length,1)->Head (p::(xs++(row.length:Int)::(row++t))) [p::xs,row] t
theorem abw (n:Int)(r:List Int):PyFlat.row (n::r)=if 0<=n/\n.toNat<=r.length then some (r.take n.toNat,r.drop n.toNat) else none:=rfl
theorem abU {r x s:List Int}(h:PyFlat.row r=some (x,s)):r=(x.length:Int)::(x++s):=by
 cases r with
 | nil=>cases h
 | cons n r=>
  rw [abw] at h
  by_cases hn:0<=n/\n.toNat<=r.length
  ·rw [if_pos hn] at h
   have z:=Option.some.inj h
   have z1:r.take n.toNat=x:=congrArg Prod.fst z
   have z2:r.drop n.toNat=s:=congrArg Prod.snd z
   have e:x.length=n.toNat:=by
    rw [<-z1,List.length_take]
    omega
   rw [e,<-z1,<-z2,List.take_append_drop]
   have:((n.toNat:Nat):Int)=n:=by omega
   rw [this]
  ·rw [if_neg hn] at h
   cases h
def wS:List (Int×Nat×Nat):=[(0,6,0),(1,0,1),(2,1,1),(3,1,1),(4,1,0),(5,2,0),(6,1,0),(7,0,0),(8,0,0),(9,0,0),(10,2,0),(11,1,0),(12,3,0),(13,0,0)]
theorem lZ {p:Int}{n k:Nat}(h:PyVamatk.shape p=some (n,k)):(p,n,k)∈wS:=by
 have st:∀ {q:Int} {a:Nat×Nat} {o:Option (Nat×Nat)} (rest:List (Int×Nat×Nat)),(if p=q then some a else o)=some (n,k)->(o=some (n,k)->(p,n,k)∈rest)->(p,n,k)∈(q,a)::rest:=by
  intro q a o rest h1 h2
  by_cases e:p=q
  ·rw [if_pos e] at h1
   rw [e,<-Option.some.inj h1]
   exact List.mem_cons_self
  ·rw [if_neg e] at h1
   exact List.mem_cons_of_mem _ (h2 h1)
 exact st _ h fun h=>st _ h fun h=>st _ h fun h=>st _ h fun h=>st _ h fun h=>st _ h fun h=>st _ h fun h=>st _ h fun h=>st _ h fun h=>st _ h fun h=>st _ h fun h=>st _ h fun h=>st _ h fun h=>st _ h fun h=>nomatch h
theorem xI {p:Int}{n k:Nat}(h:PyVamatk.shape p=some (n,k)):k=0\/k=1:=by
 have all:∀ x∈wS,x.2.2=0\/x.2.2=1:=by decide
 exact all _ (lZ h)
theorem aac (p:Int)(r:List Int):PyFlat.call PyVamatk.shape (p::r)=(match PyVamatk.shape p with
  | none=>none
  | some (n,k)=>if r.length < n then none else match PyFlat.rows k (r.drop n) with
   | none=>none
   | some (xs,t)=>some ((p::r.take n)::xs,t)):=rfl
theorem zA {r:List Int}{c:List (List Int)}{t:List Int}(h:PyFlat.call PyVamatk.shape r=some (c,t)):Head r c t:=by
 cases r with
 | nil=>cases h
 | cons p r=>
  rw [aac] at h
  cases e:PyVamatk.shape p with
  | none=>rw [e] at h;cases h
  | some nk=>
   obtain ⟨n,k⟩:=nk
   rw [e] at h
   simp only at h
   split at h
   ·cases h
   ·rename_i hn
    have hlen:(r.take n).length=n:=by rw [List.length_take];omega
    rcases xI e with rfl | rfl
    ·have h:some (([p::r.take n]:List (List Int)),r.drop n)=some (c,t):=h
     have z:=Option.some.inj h
     have z1:=congrArg Prod.fst z
     have z2:=congrArg Prod.snd z
     simp only at z1 z2
     subst z1 z2
     have q:=Head.nums p (r.take n) (r.drop n) (by rw [hlen];exact e)
     rw [List.take_append_drop] at q
     exact q
    ·cases e2:PyFlat.row (r.drop n) with
     | none=>
      unfold PyFlat.rows at h
      rw [e2] at h
      cases h
     | some xs=>
      obtain ⟨x,s⟩:=xs
      unfold PyFlat.rows at h
      rw [e2] at h
      have h:some (([p::r.take n,x]:List (List Int)),s)=some (c,t):=h
      have z:=Option.some.inj h
      have z1:=congrArg Prod.fst z
      have z2:=congrArg Prod.snd z
      simp only at z1 z2
      subst z1 z2
      have q:=Head.row p (r.take n) x s (by rw [hlen];exact e)
      rw [<-abU e2,List.take_append_drop] at q
      exact q
inductive Calls:List Int->List (List (List Int))->Prop
 | nil:Calls [] []
 | cons {r t:List Int} {c:List (List Int)} {cs:List (List (List Int))}:Head r c t->Calls t cs->Calls r (c::cs)
theorem vM:∀ (f:Nat) (l:List Int) (cs:List (List (List Int))),PyFlat.calls PyVamatk.shape f l=some cs->Calls l cs
 | f,[],cs,h=>by
  have e:cs=[]:=by cases f<;>exact (Option.some.inj h).symm
  subst e
  exact .nil
 | 0,_::_,cs,h=>by cases h
 | f+1,p::r,cs,h=>by
  unfold PyFlat.calls at h
  cases e:PyFlat.call PyVamatk.shape (p::r) with
  | none=>rw [e] at h;cases h
  | some ct=>
   obtain ⟨c,t⟩:=ct
   rw [e] at h
   simp only at h
   cases e2:PyFlat.calls PyVamatk.shape f t with
   | none=>rw [e2] at h;cases h
   | some cs'=>
    rw [e2] at h
    have z:=Option.some.inj h
    subst z
    exact .cons (zA e) (vM f t cs' e2)
theorem aa9 {r:List Int}{c:List (List Int)}{t:List Int}(h:Head r c t):t.length < r.length:=by
 cases h with
 | nums p xs t h=>simp only [List.length_cons,List.length_append];omega
 | row p xs row t h=>simp only [List.length_cons,List.length_append];omega
theorem aaK (c:List (List Int)):PyVamatk.whole c=c:=by
 unfold PyVamatk.whole
 split<;>rfl
theorem aah (cs:List (List (List Int))):cs.map PyVamatk.whole=cs:=by
 have e:PyVamatk.whole=id:=by
  funext c
  exact aaK c
 rw [e,List.map_id]
end Bp
namespace Bp
open Vamati
theorem sq:∀ (l:List Int) (a:Int),l.foldl (fun (s x:Int)=>s+x) a=a+l.sum
 | [],a=>by simp
 | x::l,a=>by
  rw [List.foldl_cons,sq l,List.sum_cons]
  omega
theorem lM (l:List Int):Vamati.sum l=l.sum:=by
 unfold Vamati.sum
 rw [sq]
 omega
theorem nj:∀ (a b:List Int),(a++b).sum=a.sum+b.sum
 | [],b=>by simp
 | x::a,b=>by
  rw [List.cons_append,List.sum_cons,List.sum_cons,nj a b]
  omega
theorem mN (a:List Int)(x:Int):(a++[x]).sum=a.sum+x:=by
 rw [nj]
 simp
theorem uL (l:Row)(a b:Item):naturalOf (l++[a]++[b])=naturalOf (l++[a])+a.space+b.width:=by
 unfold naturalOf inner
 simp only [lM,List.dropLast_concat,List.map_append,List.map_cons,List.map_nil,mN]
 omega
theorem m7 (a:Item):naturalOf [a]=a.width:=by
 unfold naturalOf inner
 simp [lM]
theorem vj (l:Row)(a b:Item):shrinkOf (l++[a]++[b])=shrinkOf (l++[a])+a.shrink:=by
 unfold shrinkOf inner
 simp only [lM,List.dropLast_concat,List.map_append,List.map_cons,List.map_nil,mN]
theorem pL (a:Item):shrinkOf [a]=0:=by
 unfold shrinkOf inner
 simp [lM]
theorem sG (r:Row)(i:Nat)(a:Item)(h:r[i]?=some a):slice r i i=[a]:=by
 obtain ⟨hi,e⟩:=List.getElem?_eq_some_iff.mp h
 unfold slice
 rw [List.take_succ_eq_append_getElem hi,e,List.drop_append,List.length_take,Nat.min_eq_left (Nat.le_of_lt hi),Nat.sub_self,List.drop_eq_nil_of_le (by rw [List.length_take];omega)]
 rfl
theorem qG (r:Row)(i j:Nat)(a:Item)(hij:i<=j)(h:r[j+1]?=some a):slice r i (j+1)=slice r i j++[a]:=by
 obtain ⟨hi,e⟩:=List.getElem?_eq_some_iff.mp h
 unfold slice
 rw [List.take_succ_eq_append_getElem hi,e,List.drop_append,List.length_take,Nat.min_eq_left (by omega),show i - (j+1)=0 by omega]
 rfl
theorem fJ (r:Row)(i j:Nat)(h:j < r.length):(slice r i j).length=j+1 - i:=by
 unfold slice
 rw [List.length_drop,List.length_take]
 omega
theorem kt (r:Row)(i j:Nat)(a:Item)(hij:i<=j)(h:r[j]?=some a):∃ l,slice r i j=l++[a]:=by
 obtain ⟨hi,e⟩:=List.getElem?_eq_some_iff.mp h
 unfold slice
 rw [List.take_succ_eq_append_getElem hi,e,List.drop_append,List.length_take,Nat.min_eq_left (by omega),show i - j=0 by omega]
 exact ⟨_,rfl⟩
theorem ut (r:Row)(i j:Nat)(a b:Item)(hij:i<=j)(ha:r[j]?=some a)(hb:r[j+1]?=some b):naturalOf (slice r i (j+1))=naturalOf (slice r i j)+a.space+b.width:=by
 obtain ⟨l,e⟩:=kt r i j a hij ha
 rw [qG r i j b hij hb,e]
 exact uL l a b
theorem vk (r:Row)(i j:Nat)(a b:Item)(hij:i<=j)(ha:r[j]?=some a)(hb:r[j+1]?=some b):shrinkOf (slice r i (j+1))=shrinkOf (slice r i j)+a.shrink:=by
 obtain ⟨l,e⟩:=kt r i j a hij ha
 rw [qG r i j b hij hb,e]
 exact vj l a b
theorem wX (r:Row)(i j:Nat)(a:Item)(hij:i<=j)(h:r[j]?=some a):((slice r i j).getLast?.map fun a=>a.cost).getD 0=a.cost:=by
 obtain ⟨l,e⟩:=kt r i j a hij h
 rw [e]
 simp
def ahead (f:Item->Int)(r:Row)(k:Nat):Int:=((r.take k).map f).sum
theorem wO (f:Item->Int)(r:Row):ahead f r 0=0:=rfl
theorem bZ (f:Item->Int)(r:Row)(k:Nat)(a:Item)(h:r[k]?=some a):ahead f r (k+1)=ahead f r k+f a:=by
 obtain ⟨hi,e⟩:=List.getElem?_eq_some_iff.mp h
 unfold ahead
 rw [List.take_succ_eq_append_getElem hi,e,List.map_append,List.map_cons,List.map_nil,mN]
theorem j0 (r:Row)(i:Nat):∀ (j:Nat) (a:Item),i<=j->r[j]?=some a->naturalOf (slice r i j)=ahead (fun a=>a.width+a.space) r j - ahead (fun a=>a.width+a.space) r i+a.width
 | j,a,hij,h=>by
  by_cases e:i=j
  ·subst e
   rw [sG r i a h,m7]
   omega
  ·obtain ⟨k,rfl⟩:∃ k,j=k+1:=⟨j - 1,by omega⟩
   have hk:k < r.length:=by have:=(List.getElem?_eq_some_iff.mp h).1;omega
   have hb:r[k]?=some r[k]:=List.getElem?_eq_getElem hk
   rw [ut r i k r[k] a (by omega) hb h,j0 r i k r[k] (by omega) hb,bZ _ r k r[k] hb]
   omega
theorem lh (r:Row)(i:Nat):∀ (j:Nat) (a:Item),i<=j->r[j]?=some a->shrinkOf (slice r i j)=ahead (fun a=>a.shrink) r j - ahead (fun a=>a.shrink) r i
 | j,a,hij,h=>by
  by_cases e:i=j
  ·subst e
   rw [sG r i a h,pL]
   omega
  ·obtain ⟨k,rfl⟩:∃ k,j=k+1:=⟨j - 1,by omega⟩
   have hk:k < r.length:=by have:=(List.getElem?_eq_some_iff.mp h).1;omega
   have hb:r[k]?=some r[k]:=List.getElem?_eq_getElem hk
   rw [vk r i k r[k] a (by omega) hb h,lh r i k r[k] (by omega) hb,bZ _ r k r[k] hb]
   omega
theorem iq (a b:Worth):betterWorth a b=true ↔ a.over < b.over\/(a.over=b.over/\(a.cost < b.cost\/(a.cost=b.cost/\a.lines < b.lines))):=by
 unfold betterWorth
 simp only [Bool.or_eq_true,Bool.and_eq_true,decide_eq_true_iff]
theorem t8 {a b c:Worth}(h:betterWorth a b=true)(h':betterWorth b c=true):betterWorth a c=true:=by
 rw [iq] at *
 omega
theorem xN {a b c:Worth}(h:¬ betterWorth a b=true)(h':¬ betterWorth b c=true):¬ betterWorth a c=true:=by
 rw [iq] at *
 omega
def pick (b c:Broken):Broken:=if betterWorth c.worth b.worth=true then c else b
theorem qR (b:Broken):∀ l:List Broken,firstBest (b::l)=some (l.foldl pick b):=by
 intro l
 induction l generalizing b with
 | nil=>rfl
 | cons x l ih=>
  have e:firstBest (b::x::l)=(match firstBest (x::l) with
   | none=>some b
   | some c=>if betterWorth c.worth b.worth=true then some c else some b):=rfl
  rw [e,ih x,List.foldl_cons]
  have key:∀ (l:List Broken) (x b:Broken),(if betterWorth (l.foldl pick x).worth b.worth=true then l.foldl pick x else b)=l.foldl pick (pick b x):=by
   intro l
   induction l with
   | nil=>intro x b;rfl
   | cons y l ih2=>
    intro x b
    rw [List.foldl_cons,List.foldl_cons]
    have h1:=ih2 (pick x y) b
    rw [h1]
    congr 1
    unfold pick
    by_cases p:betterWorth y.worth x.worth=true
    ·rw [if_pos p]
     by_cases q:betterWorth x.worth b.worth=true
     ·rw [if_pos q,if_pos p,if_pos (t8 p q)]
     ·rw [if_neg q]
    ·rw [if_neg p]
     by_cases q:betterWorth x.worth b.worth=true
     ·rw [if_pos q,if_neg p]
     ·rw [if_neg q,if_neg (xN p q)]
  have k:=key l x b
  rw [<-k]
  simp only
  split<;>rfl
end Bp
namespace Bp
open Vamati
def tY:Broken:={ends:=[],worth:=nothing}
def bJ (r:Row)(m:Measure)(i:Nat):Broken:=(bestFrom r m (r.length - i)).headD tY
theorem iV (r:Row)(m:Measure):∀ k,(bestFrom r m k).length=k+1
 | 0=>rfl
 | k+1=>by
  show (bestAt r m (r.length - (k+1)) (bestFrom r m k)::bestFrom r m k).length=_
  rw [List.length_cons,iV r m k]
theorem kH (r:Row)(m:Measure):∀ k,k<=r.length->∀ t,t<=k->(bestFrom r m k)[t]?=some (bJ r m (r.length - k+t))
 | 0,_,t,ht=>by
  have e:t=0:=by omega
  subst e
  unfold bJ
  have z:r.length - (r.length - 0+0)=0:=by omega
  rw [z]
  rfl
 | k+1,hk,0,_=>by
  unfold bJ
  have z:r.length - (r.length - (k+1)+0)=k+1:=by omega
  rw [z]
  rfl
 | k+1,hk,t+1,ht=>by
  have ih:=kH r m k (by omega) t (by omega)
  have z:r.length - (k+1)+(t+1)=r.length - k+t:=by omega
  rw [z,<-ih]
  rfl
def cands (r:Row)(m:Measure)(i:Nat):List Broken:=
 (List.range (r.length - i)).filterMap fun t=>if mayEnd r (i+t)=true then some (withLine r m i (i+t) (bJ r m (i+t+1))) else none
theorem jx (r:Row)(m:Measure)(i:Nat)(h:r.length<=i):bJ r m i=tY:=by
 unfold bJ
 rw [show r.length - i=0 by omega]
 rfl
theorem mo {α:Type}(l:List α)(d:α):l.zipIdx=(List.range l.length).map fun t=>(l.getD t d,t):=by
 apply List.ext_getElem
 ·simp
 ·intro i h1 h2
  have hi:i < l.length:=by simpa using h1
  rw [List.getElem_zipIdx,List.getElem_map,List.getElem_range]
  simp [List.getD_eq_getElem?_getD,List.getElem?_eq_getElem hi]
theorem jg {α β:Type}{f g:α->Option β}:∀ {l:List α},(∀ a∈l,f a=g a)->l.filterMap f=l.filterMap g
 | [],_=>rfl
 | x::l,h=>by
  rw [List.filterMap_cons,List.filterMap_cons,h x List.mem_cons_self,jg fun a ha=>h a (List.mem_cons_of_mem _ ha)]
theorem wK (r:Row)(m:Measure)(i:Nat)(h:i < r.length):bJ r m i=(firstBest (cands r m i)).getD tY:=by
 have e:r.length - i=(r.length - i - 1)+1:=by omega
 have hd:bJ r m i=bestAt r m (r.length - (r.length - i - 1+1)) (bestFrom r m (r.length - i - 1)):=by
  unfold bJ
  rw [e]
  rfl
 rw [hd,show r.length - (r.length - i - 1+1)=i by omega]
 unfold bestAt
 congr 2
 unfold cands
 rw [mo _ tY,List.filterMap_map,iV,show r.length - i - 1+1=r.length - i by omega]
 apply jg
 intro t ht
 have ht:t < r.length - i:=List.mem_range.mp ht
 have g:=kH r m (r.length - i - 1) (by omega) t (by omega)
 rw [show r.length - (r.length - i - 1)+t=i+t+1 by omega] at g
 simp only [Function.comp]
 rw [List.getD_eq_getElem?_getD,g]
 rfl
theorem nc (r:Row)(j:Nat)(h:j+1=r.length):mayEnd r j=true:=by
 unfold mayEnd
 rw [decide_eq_true h]
 rfl
theorem tZ (r:Row)(j:Nat)(a:Item)(h:j+1≠r.length)(ha:r[j]?=some a):mayEnd r j=decide (0<=a.cost):=by
 unfold mayEnd
 rw [decide_eq_false h,ha]
 rfl
theorem abD (r:Row)(m:Measure)(i:Nat)(h:i < r.length):cands r m i≠[]:=by
 intro e
 unfold cands at e
 rw [List.filterMap_eq_nil_iff] at e
 have z:=e (r.length - i - 1) (List.mem_range.mpr (by omega))
 rw [if_pos (nc r _ (by omega))] at z
 cases z
theorem kj (r:Row)(m:Measure)(i:Nat)(h:i < r.length):∃ b l,cands r m i=b::l/\bJ r m i=l.foldl pick b:=by
 rw [wK r m i h]
 cases e:cands r m i with
 | nil=>exact absurd e (abD r m i h)
 | cons b l=>exact ⟨b,l,rfl,by rw [qR];rfl⟩
theorem xf (r:Row)(m:Measure):∀ (k i:Nat),r.length - i=k->isBreaking r i (bJ r m i).ends=true\/r.length < i:=by
 intro k
 induction k using Nat.strongRecOn with
 | _ k ih=>
  intro i hk
  by_cases hi:i < r.length
  ·left
   obtain ⟨b,l,e,z⟩:=kj r m i hi
   have mem:bJ r m i∈cands r m i:=by
    rw [z,e]
    have pm:∀ (l:List Broken) (b:Broken),l.foldl pick b∈b::l:=by
     intro l
     induction l with
     | nil=>intro b;exact List.mem_cons_self
     | cons x l ih3=>
      intro b
      rw [List.foldl_cons]
      have q:=ih3 (pick b x)
      rcases List.mem_cons.mp q with w | w
      ·rw [w]
       unfold pick
       split
       ·exact List.mem_cons_of_mem _ List.mem_cons_self
       ·exact List.mem_cons_self
      ·exact List.mem_cons_of_mem _ (List.mem_cons_of_mem _ w)
    exact pm l b
   unfold cands at mem
   obtain ⟨t,ht,w⟩:=List.mem_filterMap.mp mem
   have ht:t < r.length - i:=List.mem_range.mp ht
   by_cases me:mayEnd r (i+t)=true
   ·rw [if_pos me] at w
    have w:=Option.some.inj w
    have en:(bJ r m i).ends=(i+t)::(bJ r m (i+t+1)).ends:=by rw [<-w];rfl
    rw [en]
    unfold isBreaking
    rw [decide_eq_true (show i<=i+t by omega),decide_eq_true (show i+t < r.length by omega),me]
    rcases ih (r.length - (i+t+1)) (by omega) (i+t+1) rfl with q | q
    ·rw [q];rfl
    ·omega
   ·rw [if_neg me] at w
    cases w
  ·by_cases h2:r.length < i
   ·right;exact h2
   ·left
    rw [jx r m i (by omega)]
    show decide (i=r.length)=true
    exact decide_eq_true (by omega)
end Bp
namespace Bp
open Vamati Vamatk
theorem iQ (r:Vamati.Row):∀ (l:List Nat) (i:Nat),isBreaking r i l=true->l.length+i<=r.length
 | [],i,h=>by
  have h:=of_decide_eq_true (show decide (i=r.length)=true from h)
  simp
  omega
 | j::l,i,h=>by
  have h:(decide (i<=j)&&(decide (j < r.length)&&(mayEnd r j&&isBreaking r (j+1) l)))=true:=h
  simp only [Bool.and_eq_true,decide_eq_true_iff] at h
  have ih:=iQ r l (j+1) h.2.2.2
  rw [List.length_cons]
  omega
theorem fX:∀ (l:List Nat) (i:Nat),(linesOf i l).length=l.length
 | [],_=>rfl
 | j::l,i=>by
  show (linesOf (j+1) l).length+1=_
  rw [fX l]
  rfl
theorem best_breaking (r:Vamati.Row)(m:Vamati.Measure):isBreaking r 0 (bestOf r m).ends=true:=by
 rcases xf r m (r.length - 0) 0 rfl with h | h
 ·exact h
 ·omega
theorem nv (r:Vamati.Row)(m:Vamati.Measure):(bestOf r m).ends.length<=r.length:=by
 have:=iQ r _ 0 (best_breaking r m)
 omega
theorem lg (s:Settings)(i:Nat)(b:Block):(blockLines s i b).length<=Vamatk.itemCount b+1:=by
 unfold blockLines Vamatk.itemCount
 cases b.body with
 | display way w h d=>simp
 | paragraph first row=>
  simp only [List.length_map,fX]
  have:=nv row (measureOf s first)
  omega
theorem sZ:∀ (s:Settings) (bs:List Block) (k:Nat),((bs.zipIdx k).flatMap fun x=>blockLines s x.2 x.1).length<=itemsIn bs+bs.length
 | s,[],k=>by simp
 | s,b::bs,k=>by
  rw [List.zipIdx_cons,List.flatMap_cons,List.length_append,bo,List.length_cons]
  have h1:=sZ s bs (k+1)
  have h2:=lg s k b
  simp only at h2 ⊢
  omega
theorem bx {st:Vamatk.State}(s:Sound st):(allLines st).length<=660:=by
 have h:=sZ st.settings st.blocks 0
 have h1:=s.many
 have h2:=s.items
 unfold allLines
 omega
theorem bI (st:Vamatk.State):∀ l:List Line,(columnFrom st l).length=l.length
 | []=>rfl
 | [a]=>rfl
 | a::b::l=>by
  have ih:=bI st (b::l)
  show (_::columnFrom st (b::l)).length=_
  rw [List.length_cons,ih]
  rfl
theorem uj {st:Vamatk.State}(s:Sound st):(pagesOf st).length<=660:=by
 unfold pagesOf bestPages
 rw [fX]
 have h:=nv (columnFrom st (allLines st)) (pageMeasure st.settings)
 rw [bI] at h
 have:=bx s
 omega
end Bp
namespace Bp
open Vamati Vamatk
theorem pW {r:Vamati.Row}{i j:Nat}{l:List Nat}(h:isBreaking r i (j::l)=true):i<=j/\j < r.length/\mayEnd r j=true/\isBreaking r (j+1) l=true:=by
 have h:(decide (i<=j)&&(decide (j < r.length)&&(mayEnd r j&&isBreaking r (j+1) l)))=true:=h
 simpa only [Bool.and_eq_true,decide_eq_true_iff] using h
theorem xO {α:Type}(xs:List α)(i j:Nat)(hij:i<=j+1):(xs.take (j+1)).drop i++xs.drop (j+1)=xs.drop i:=by
 have e:=List.take_append_drop (j+1) xs
 have q:(xs.take (j+1)++xs.drop (j+1)).drop i=xs.drop i:=by rw [e]
 by_cases h:j+1<=xs.length
 ·rw [List.drop_append,List.length_take,Nat.min_eq_left h,show i - (j+1)=0 by omega,List.drop_zero] at q
  exact q
 ·rw [List.take_of_length_le (by omega),List.drop_eq_nil_of_le (i:=j+1) (by omega),List.append_nil]
theorem jy {α:Type}(r:Vamati.Row)(xs:List α)(hx:xs.length=r.length):∀ (l:List Nat) (i:Nat),isBreaking r i l=true->(linesOf i l).flatMap (fun p=>(xs.take (p.2+1)).drop p.1)=xs.drop i
 | [],i,h=>by
  have h:=of_decide_eq_true (show decide (i=r.length)=true from h)
  rw [List.drop_eq_nil_of_le (by omega)]
  rfl
 | j::l,i,h=>by
  obtain ⟨h1,h2,_,h4⟩:=pW h
  show ((xs.take (j+1)).drop i)++(linesOf (j+1) l).flatMap (fun p=>(xs.take (p.2+1)).drop p.1)=xs.drop i
  rw [jy r xs hx l (j+1) h4,xO xs i j (by omega)]
theorem kG (r:Vamati.Row):∀ (l:List Nat) (i:Nat),isBreaking r i l=true->∀ p∈linesOf i l,i<=p.1/\p.1<=p.2/\p.2 < r.length/\mayEnd r p.2=true
 | [],i,_,p,hp=>by cases hp
 | j::l,i,h,p,hp=>by
  obtain ⟨h1,h2,h3,h4⟩:=pW h
  rcases List.mem_cons.mp (show p∈(i,j)::linesOf (j+1) l from hp) with e | e
  ·subst e
   exact ⟨Nat.le_refl _,h1,h2,h3⟩
  ·obtain ⟨q1,q2,q3,q4⟩:=kG r l (j+1) h4 p e
   exact ⟨by omega,q2,q3,q4⟩
theorem dj:∀ (l:List (Line×Vamati.Item)) (y:Int),(baselinesFrom y l).length=l.length
 | [],_=>rfl
 | (a,b)::l,y=>by
  show (baselinesFrom _ l).length+1=_
  rw [dj l]
  rfl
theorem vZ {α β γ:Type}(f:α->List β)(g:α->List γ):∀ l:List α,(∀ x∈l,(f x).length=(g x).length)->(l.flatMap f).length=(l.flatMap g).length
 | [],_=>rfl
 | x::l,h=>by
  rw [List.flatMap_cons,List.flatMap_cons,List.length_append,List.length_append,h x List.mem_cons_self,vZ f g l fun y hy=>h y (List.mem_cons_of_mem _ hy)]
theorem i5 {α β:Type}(f:α->List β):∀ (l:List α) (k:Nat),((l.zipIdx k).flatMap fun x=>f x.1)=l.flatMap f
 | [],_=>rfl
 | x::l,k=>by
  rw [List.zipIdx_cons,List.flatMap_cons,List.flatMap_cons,i5 f l]
theorem mi (st:Vamatk.State):(lineSpots st).length=(allLines st).length:=by
 unfold lineSpots
 simp only
 have hp:((allLines st).zip (columnFrom st (allLines st))).length=(allLines st).length:=by
  rw [List.length_zip,bI]
  omega
 have hb:=best_breaking (columnFrom st (allLines st)) (pageMeasure st.settings)
 have e:=jy (columnFrom st (allLines st)) ((allLines st).zip (columnFrom st (allLines st))) (by rw [hp,bI]) _ 0 hb
 rw [vZ (g:=fun x=>(((allLines st).zip (columnFrom st (allLines st))).take (x.1.2+1)).drop x.1.1)]
 ·rw [i5 (fun p:Nat×Nat=>(((allLines st).zip (columnFrom st (allLines st))).take (p.2+1)).drop p.1)]
  show ((linesOf 0 (bestOf (columnFrom st (allLines st)) (pageMeasure st.settings)).ends).flatMap fun p=>(((allLines st).zip (columnFrom st (allLines st))).take (p.2+1)).drop p.1).length=_
  rw [e,List.drop_zero,hp]
 ·intro x _
  rw [List.length_map,dj]
end Bp
namespace Bp
structure Wy where
 o:Int
 c:Int
 k:Int
 e:Int
 deriving DecidableEq
def Wy.lt (a b:Wy):Prop:=a.o < b.o\/(a.o=b.o/\(a.c < b.c\/(a.c=b.c/\(a.k < b.k\/(a.k=b.k/\a.e < b.e)))))
def Wy.le (a b:Wy):Prop:=a.o < b.o\/(a.o=b.o/\(a.c < b.c\/(a.c=b.c/\(a.k < b.k\/(a.k=b.k/\a.e<=b.e)))))
instance (a b:Wy):Decidable (Wy.lt a b):=by unfold Wy.lt;exact inferInstance
def Wy.lt3 (a:Wy)(x y z:Int):Prop:=a.o < x\/(a.o=x/\(a.c < y\/(a.c=y/\a.k < z)))
instance (a:Wy)(x y z:Int):Decidable (Wy.lt3 a x y z):=by unfold Wy.lt3;exact inferInstance
def wmin (a b:Wy):Wy:=if Wy.lt b a then b else a
theorem Wy.le_refl (a:Wy):Wy.le a a:=by unfold Wy.le;omega
theorem Wy.le_trans {a b c:Wy}(h:Wy.le a b)(h':Wy.le b c):Wy.le a c:=by unfold Wy.le at *;omega
theorem Wy.le_of_lt {a b:Wy}(h:Wy.lt a b):Wy.le a b:=by unfold Wy.le;unfold Wy.lt at h;omega
theorem Wy.le_of_not {a b:Wy}(h:¬ Wy.lt b a):Wy.le a b:=by unfold Wy.le;unfold Wy.lt at h;omega
theorem Wy.le_antisymm {a b:Wy}(h:Wy.le a b)(h':Wy.le b a):a=b:=by
 obtain ⟨a1,a2,a3,a4⟩:=a
 obtain ⟨b1,b2,b3,b4⟩:=b
 unfold Wy.le at h h'
 simp only at h h'
 have e1:a1=b1:=by omega
 have e2:a2=b2:=by omega
 have e3:a3=b3:=by omega
 have e4:a4=b4:=by omega
 rw [e1,e2,e3,e4]
theorem tM (a b:Wy):Wy.le (wmin a b) a:=by
 unfold wmin
 split
 ·exact Wy.le_of_lt ‹_›
 ·exact Wy.le_refl a
theorem rk (a b:Wy):Wy.le (wmin a b) b:=by
 unfold wmin
 split
 ·exact Wy.le_refl b
 ·exact Wy.le_of_not ‹_›
theorem acM (a b:Wy):wmin a b=a\/wmin a b=b:=by
 unfold wmin
 split
 ·exact .inr rfl
 ·exact .inl rfl
structure Pcs where
 n:Nat
 L:Nat->Int
 R:Nat->Int
 TL:Nat->Int
 TR:Nat->Int
 C:Nat->Int
structure Pcs.Ok (P:Pcs):Prop where
 l:∀ i j,i<=j->j<=P.n->P.L i<=P.L j
 r:∀ i j,i<=j->j<=P.n->P.R i<=P.R j
 tl:∀ i j,i<=j->j<=P.n->P.TL i<=P.TL j
 tr:∀ i j,i<=j->j<=P.n->P.TR i<=P.TR j
 c:∀ i,i < P.n->0<=P.C i
def slk (P:Pcs)(room:Int)(s e:Nat):Int:=room - (P.R e - P.L s)
def ovf (P:Pcs)(room:Int)(s e:Nat):Int:=max 0 (P.TR e - P.TL s - room)
def cst (P:Pcs)(e:Nat)(x:Int):Int:=if e < P.n then x * x+P.C e else if x < 0 then x * x else 0
def gv (P:Pcs)(room:Int)(s e:Nat)(rest:Wy):Wy:=⟨ovf P room s e+rest.o,cst P e (slk P room s e)+rest.c,1+rest.k,e⟩
def nil4:Wy:=⟨0,0,0,0⟩
structure d3 (P:Pcs)(room:Int)(T:Nat->Wy)(s a b:Nat)(w:Wy):Prop where
 has:∃ e,a<=e/\e<=b/\w=gv P room s e (T (e+1))
 low:∀ e,a<=e->e<=b->Wy.le w (gv P room s e (T (e+1)))
theorem d3.unique {P:Pcs}{room:Int}{T:Nat->Wy}{s a b:Nat}{w w':Wy}(h:d3 P room T s a b w)(h':d3 P room T s a b w'):w=w':=by
 obtain ⟨e,h1,h2,h3⟩:=h.has
 obtain ⟨e',h1',h2',h3'⟩:=h'.has
 refine Wy.le_antisymm ?_ ?_
 ·rw [h3'];exact h.low e' h1' h2'
 ·rw [h3];exact h'.low e h1 h2
structure Good (P:Pcs)(room:Int)(T:Nat->Wy)(lo:Nat):Prop where
 fin:T (P.n+1)=nil4
 best:∀ s,lo<=s->s<=P.n->d3 P room T s s P.n (T s)
theorem lU (x:Int):0<=x * x:=by
 rcases Int.le_total 0 x with h | h
 ·exact Int.mul_nonneg h h
 ·exact Int.mul_nonneg_of_nonpos_of_nonpos h h
theorem adq {x y:Int}(h0:0<=x)(h:x<=y):x * x<=y * y:=Int.mul_le_mul h h h0 (by omega)
theorem xH {P:Pcs}(ok:P.Ok)(e:Nat)(x:Int):0<=cst P e x:=by
 unfold cst
 have:=lU x
 split
 ·have:=ok.c e ‹_›
  omega
 ·split<;>omega
theorem ql (P:Pcs)(room:Int)(s e:Nat):0<=ovf P room s e:=by unfold ovf;omega
theorem Good.nonneg {P:Pcs}{room:Int}{T:Nat->Wy}{lo:Nat}(ok:P.Ok)(g:Good P room T lo):∀ (d s:Nat),lo<=s->s+d=P.n+1->0<=(T s).o/\0<=(T s).c/\0<=(T s).k/\(s<=P.n->1<=(T s).k):=by
 intro d
 induction d using Nat.strongRecOn with
 | _ d ih=>
  intro s h1 h2
  by_cases hs:s<=P.n
  ·obtain ⟨e,q1,q2,q3⟩:=(g.best s h1 hs).has
   have i:=ih (P.n - e) (by omega) (e+1) (by omega) (by omega)
   rw [q3]
   unfold gv
   have:=ql P room s e
   have:=xH ok e (slk P room s e)
   simp only
   omega
  ·have e:s=P.n+1:=by omega
   rw [e,g.fin]
   unfold nil4
   simp only
   omega
theorem ab0 {P:Pcs}(ok:P.Ok)(room:Int){s s':Nat}(e:Nat)(h:s<=s')(h':s'<=P.n):ovf P room s' e<=ovf P room s e:=by
 have:=ok.tl s s' h h'
 unfold ovf
 omega
theorem zZ {P:Pcs}(ok:P.Ok)(room:Int)(s:Nat){e e':Nat}(h:e<=e')(h':e'<=P.n):ovf P room s e<=ovf P room s e':=by
 have:=ok.tr e e' h h'
 unfold ovf
 omega
theorem Good.longer {P:Pcs}{room:Int}{T:Nat->Wy}{lo:Nat}(ok:P.Ok)(g:Good P room T lo)(s:Nat)(h1:lo<=s)(h2:s<=P.n):(T (s+1)).o<=(T s).o:=by
 obtain ⟨e,q1,q2,q3⟩:=(g.best s h1 h2).has
 have hov:=ql P room s e
 by_cases he:e=s
 ·subst he
  rw [q3]
  unfold gv
  simp only
  omega
 ·have b:=(g.best (s+1) (by omega) (by omega)).low e (by omega) q2
  have l:=ab0 ok room (s:=s) (s':=s+1) e (by omega) (by omega)
  rw [q3]
  unfold gv at b ⊢
  unfold Wy.le at b
  simp only at b ⊢
  omega
theorem Good.longest {P:Pcs}{room:Int}{T:Nat->Wy}{lo:Nat}(ok:P.Ok)(g:Good P room T lo)(s:Nat)(h1:lo<=s):∀ d,s+d<=P.n+1->(T (s+d)).o<=(T s).o
 | 0,_=>Int.le_refl _
 | d+1,h=>by
  have i:=Good.longest ok g s h1 d (by omega)
  have j:=g.longer ok (s+d) (by omega) (by omega)
  rw [show s+(d+1)=s+d+1 by omega]
  omega
def scan (P:Pcs)(room:Int)(T:Nat->Wy)(s:Nat):Nat->Wy->Wy
 | 0,b=>b
 | k+1,b=>
  if Wy.lt3 b (ovf P room s s+(T (s+k+1)).o) (max 0 (slk P room s (s+k)) * max 0 (slk P room s (s+k))) 2 then b
  else if ovf P room s (s+k)+(T (s+k+1)).o<=b.o then scan P room T s k (wmin b (gv P room s (s+k) (T (s+k+1))))
  else scan P room T s k b
theorem mI {P:Pcs}{room0 room:Int}{T:Nat->Wy}{s far:Nat}(ok:P.Ok)(g:Good P room T (s+1))(hf:far<=P.n):∀ (k:Nat) (b:Wy),s+k<=far->d3 P room0 T s (s+k) far b->d3 P room0 T s s far (scan P room0 T s k b)
 | 0,b,_,h=>h
 | k+1,b,hk,h=>by
  unfold scan
  have nn:=fun e (h1:s<=e) (h2:e<=far)=>Good.nonneg ok g (P.n - e) (e+1) (by omega) (by omega)
  split
  ·rename_i hb
   refine ⟨?_,fun e h1 h2=>?_⟩
   ·obtain ⟨e,q1,q2,q3⟩:=h.has
    exact ⟨e,by omega,q2,q3⟩
   ·by_cases he:s+(k+1)<=e
    ·exact h.low e he h2
    ·have n1:=nn e h1 h2
     have hlong:=Good.longest ok g (e+1) (by omega) (s+k - e) (by omega)
     rw [show e+1+(s+k - e)=s+k+1 by omega] at hlong
     have hov:=zZ ok room0 s (e:=s) (e':=e) h1 (by omega)
     have hsl:slk P room0 s (s+k)<=slk P room0 s e:=by
      have:=ok.r e (s+k) (by omega) (by omega)
      unfold slk
      omega
     have hsq:max 0 (slk P room0 s (s+k)) * max 0 (slk P room0 s (s+k))<=slk P room0 s e * slk P room0 s e:=by
      by_cases z:0<=slk P room0 s (s+k)
      ·rw [show max 0 (slk P room0 s (s+k))=slk P room0 s (s+k) by omega]
       exact adq z hsl
      ·rw [show max 0 (slk P room0 s (s+k))=0 by omega]
       have:=lU (slk P room0 s e)
       omega
     have hc:cst P e (slk P room0 s e)=slk P room0 s e * slk P room0 s e+P.C e:=by
      unfold cst
      rw [if_pos (by omega)]
     have hce:=ok.c e (by omega)
     have n2:=n1.2.2.2 (by omega)
     unfold Wy.lt3 at hb
     unfold Wy.le gv
     simp only
     rw [hc]
     omega
  ·rename_i hb
   have key:∀ w,Wy.le w b->Wy.le w (gv P room0 s (s+k) (T (s+k+1)))->(w=b\/w=gv P room0 s (s+k) (T (s+k+1)))->d3 P room0 T s (s+k) far w:=by
    intro w h1 h2 h3
    refine ⟨?_,fun e q1 q2=>?_⟩
    ·rcases h3 with h3 | h3
     ·obtain ⟨e,q1,q2,q3⟩:=h.has
      exact ⟨e,by omega,q2,by rw [h3];exact q3⟩
     ·exact ⟨s+k,Nat.le_refl _,by omega,h3⟩
    ·by_cases he:e=s+k
     ·subst he
      exact h2
     ·exact Wy.le_trans h1 (h.low e (by omega) q2)
   split
   ·exact mI ok g hf k _ (by omega) (key _ (tM _ _) (rk _ _) (acM _ _))
   ·rename_i ho
    refine mI ok g hf k _ (by omega) (key _ (Wy.le_refl b) ?_ (.inl rfl))
    unfold Wy.le gv
    simp only
    omega
def dB (P:Pcs)(room:Int)(T:Nat->Wy)(s far:Nat):Wy:=scan P room T s (far - s) (gv P room s far (T (far+1)))
theorem iC {P:Pcs}{room0 room:Int}{T:Nat->Wy}{s far:Nat}(ok:P.Ok)(g:Good P room T (s+1))(hs:s<=far)(hf:far<=P.n):d3 P room0 T s s far (dB P room0 T s far):=by
 unfold dB
 refine mI ok g hf _ _ (by omega) ?_
 rw [show s+(far - s)=far by omega]
 exact ⟨⟨far,Nat.le_refl _,Nat.le_refl _,rfl⟩,fun e h1 h2=>by rw [show e=far by omega];exact Wy.le_refl _⟩
theorem aeQ {a b c d:Int}(h:a+d=b+c)(hb:b<=a)(hd:b<=d):a * a+d * d<=b * b+c * c:=by
 have e:c=a+d - b:=by omega
 have p:0<=(a - b) * (d - b):=Int.mul_nonneg (by omega) (by omega)
 have q:b * b+c * c=a * a+d * d+2 * ((a - b) * (d - b)):=by
  rw [e]
  simp only [Int.sub_mul,Int.mul_sub,Int.add_mul,Int.mul_add,Int.two_mul]
  have c1:=Int.mul_comm a b
  have c2:=Int.mul_comm a d
  have c3:=Int.mul_comm b d
  omega
 omega
theorem aae {P:Pcs}{e e':Nat}(he:e < e')(he':e'<=P.n){a b c d:Int}(h:a+d=b+c)(hb:b<=a)(hd:b<=d):cst P e a+cst P e' d<=cst P e' b+cst P e c:=by
 have s:=aeQ h hb hd
 unfold cst
 rw [if_pos (show e < P.n by omega),if_pos (show e < P.n by omega)]
 by_cases hn:e' < P.n
 ·rw [if_pos hn,if_pos hn]
  omega
 ·rw [if_neg hn,if_neg hn]
  by_cases b0:b < 0
  ·rw [if_pos b0]
   have:=lU d
   split<;>omega
  ·rw [if_neg b0,if_neg (show ¬ d < 0 by omega)]
   have:=adq (show 0<=a by omega) (show a<=c by omega)
   omega
theorem zQ {P:Pcs}(ok:P.Ok)(room:Int){s s' e e':Nat}(hs:s<=s')(hs':s'<=P.n)(he:e<=e')(he':e'<=P.n):ovf P room s e+ovf P room s' e'<=ovf P room s e'+ovf P room s' e:=by
 have:=ok.tl s s' hs hs'
 have:=ok.tr e e' he he'
 unfold ovf
 omega
theorem d3.all {P:Pcs}{room:Int}{T:Nat->Wy}{s far:Nat}{w w':Wy}(ok:P.Ok)(hb:d3 P room T s s far w)(hn:d3 P room T (s+1) (s+1) P.n w')(hf:w'.e=(far:Int))(hs:s+1<=P.n)(hfs:s+1<=far)(hfn:far<=P.n):d3 P room T s s P.n w:=by
 have hw:w'=gv P room (s+1) far (T (far+1)):=by
  obtain ⟨e,h1,h2,h3⟩:=hn.has
  have z:(e:Int)=far:=by
   rw [h3] at hf
   exact hf
  have z:e=far:=by omega
  rw [h3,z]
 refine ⟨?_,fun e h1 h2=>?_⟩
 ·obtain ⟨e,h1,h2,h3⟩:=hb.has
  exact ⟨e,h1,by omega,h3⟩
 ·by_cases he:e<=far
  ·exact hb.low e h1 he
  ·have hfar:=hb.low far (by omega) (Nat.le_refl _)
   refine Wy.le_trans hfar ?_
   have nx:=hn.low e (by omega) h2
   rw [hw] at nx
   have oc:=zQ ok room (s:=s) (s':=s+1) (e:=far) (e':=e) (by omega) hs (by omega) h2
   have cc:=aae (P:=P) (e:=far) (e':=e) (by omega) h2 (a:=slk P room s far) (d:=slk P room (s+1) e) (b:=slk P room s e) (c:=slk P room (s+1) far)
    (by unfold slk;omega) (by have:=ok.r far e (by omega) h2;unfold slk;omega) (by have:=ok.l s (s+1) (by omega) hs;unfold slk;omega)
   unfold Wy.le gv at nx ⊢
   simp only at nx ⊢
   omega
end Bp
namespace Bp
open Vamati
def esL (r:Row):List Nat:=(List.range r.length).filter (mayEnd r)
def begs (r:Row):Nat->Bool
 | 0=>true
 | j+1=>mayEnd r j
def bsL (r:Row):List Nat:=(List.range r.length).filter (begs r)
theorem aak (r:Row)(h:r≠[]):∃ q,esL r=q++[r.length - 1]/\bsL r=0::q.map (·+1):=by
 have hl:0 < r.length:=List.length_pos_iff.mpr h
 obtain ⟨m,hm⟩:∃ m,r.length=m+1:=⟨r.length - 1,by omega⟩
 refine ⟨(List.range m).filter (mayEnd r),?_,?_⟩
 ·unfold esL
  rw [hm,List.range_succ,List.filter_append,List.filter_cons,if_pos (nc r m (by omega)),List.filter_nil]
  rfl
 ·unfold bsL
  rw [hm,List.range_succ_eq_map,List.filter_cons,if_pos (show begs r 0=true from rfl),List.filter_map]
  rfl
theorem cR (r:Row)(h:r≠[]):0 < (esL r).length:=by
 obtain ⟨q,e,_⟩:=aak r h
 rw [e]
 simp
def pe (r:Row)(k:Nat):Nat:=(esL r).getD k 0
def fs (r:Row):Nat->Nat
 | 0=>0
 | k+1=>pe r k+1
def ak (r:Row):Nat:=(esL r).length - 1
theorem gW {r:Row}{k:Nat}(h:k < (esL r).length):(esL r)[k]?=some (pe r k):=by
 unfold pe
 rw [List.getD_eq_getElem?_getD,List.getElem?_eq_getElem h]
 rfl
theorem xc {r:Row}(hr:r≠[]){k:Nat}(h:k < (esL r).length):(bsL r)[k]?=some (fs r k):=by
 obtain ⟨q,e,e'⟩:=aak r hr
 rw [e']
 cases k with
 | zero=>rfl
 | succ k=>
  have hk:k < q.length:=by
   rw [e] at h
   simp at h
   omega
  show _=some (pe r k+1)
  unfold pe
  rw [e,List.getElem?_cons_succ,List.getElem?_map,List.getD_eq_getElem?_getD,List.getElem?_append_left hk,List.getElem?_eq_getElem hk]
  rfl
theorem eM {r:Row}{k:Nat}(h:k < (esL r).length):pe r k < r.length/\mayEnd r (pe r k)=true:=by
 have m:=List.mem_of_getElem? (gW h)
 unfold esL at m
 rw [List.mem_filter,List.mem_range] at m
 exact m
theorem oJ {r:Row}(hr:r≠[]):pe r (ak r)=r.length - 1:=by
 obtain ⟨q,e,_⟩:=aak r hr
 unfold pe ak
 rw [e]
 simp
theorem abO {r:Row}(hr:r≠[]):fs r (ak r+1)=r.length:=by
 have hl:0 < r.length:=List.length_pos_iff.mpr hr
 show pe r (ak r)+1=_
 rw [oJ hr]
 omega
theorem sk {r:Row}{i j:Nat}(h:i < j)(hj:j < (esL r).length):pe r i < pe r j:=by
 have p:(esL r).Pairwise (· < ·):=List.Pairwise.filter _ List.pairwise_lt_range
 have hi:i < (esL r).length:=by omega
 have e1:=List.getElem?_eq_some_iff.mp (gW hi)
 have e2:=List.getElem?_eq_some_iff.mp (gW hj)
 obtain ⟨_,e1⟩:=e1
 obtain ⟨_,e2⟩:=e2
 rw [<-e1,<-e2]
 exact List.pairwise_iff_getElem.mp p i j hi hj h
theorem adp {r:Row}{i j:Nat}(h:i<=j)(hj:j < (esL r).length):pe r i<=pe r j:=by
 rcases Nat.lt_or_eq_of_le h with q | q
 ·exact Nat.le_of_lt (sk q hj)
 ·rw [q]
  exact Nat.le_refl _
theorem fo {r:Row}{s e:Nat}(h:s<=e)(he:e < (esL r).length):fs r s<=pe r e:=by
 cases s with
 | zero=>exact Nat.zero_le _
 | succ s=>exact sk (i:=s) (j:=e) (by omega) he
theorem adm {r:Row}{i j:Nat}(h:i<=j)(hj:j<=(esL r).length):fs r i<=fs r j:=by
 cases j with
 | zero=>
  rw [show i=0 by omega]
  exact Nat.le_refl _
 | succ j=>
  rcases Nat.lt_or_eq_of_le h with q | q
  ·exact Nat.le_trans (fo (e:=j) (by omega) (by omega)) (Nat.le_succ _)
  ·rw [q]
   exact Nat.le_refl _
theorem wZ {r:Row}{s:Nat}:fs r s=0 ↔ s=0:=by
 cases s with
 | zero=>exact ⟨fun _=>rfl,fun _=>rfl⟩
 | succ s=>exact ⟨fun h=>absurd h (Nat.succ_ne_zero _),fun h=>absurd h (Nat.succ_ne_zero _)⟩
theorem x9 (r:Row):∀ (s:Nat),s<=(esL r).length->(List.range' (fs r s) (r.length - fs r s)).filter (mayEnd r)=(esL r).drop s
 | 0,_=>by
  show (List.range' 0 (r.length - 0)).filter (mayEnd r)=_
  rw [List.drop_zero,Nat.sub_zero,<-List.range_eq_range']
  rfl
 | s+1,h=>by
  have ih:=x9 r s (by omega)
  obtain ⟨h1,h2⟩:=eM (r:=r) (k:=s) (by omega)
  have h3:=fo (r:=r) (s:=s) (e:=s) (Nat.le_refl _) (by omega)
  show (List.range' (pe r s+1) (r.length - (pe r s+1))).filter (mayEnd r)=_
  have sp:List.range' (fs r s) (r.length - fs r s)=List.range' (fs r s) (pe r s - fs r s)++(pe r s::List.range' (pe r s+1) (r.length - (pe r s+1))):=by
   have e1:pe r s::List.range' (pe r s+1) (r.length - (pe r s+1))=List.range' (pe r s) (r.length - pe r s):=by
    rw [show r.length - pe r s=(r.length - (pe r s+1))+1 by omega,List.range'_succ]
   rw [e1]
   have e2:=List.range'_append (s:=fs r s) (m:=pe r s - fs r s) (n:=r.length - pe r s) (step:=1)
   rw [show fs r s+1 * (pe r s - fs r s)=pe r s by omega,show pe r s - fs r s+(r.length - pe r s)=r.length - fs r s by omega] at e2
   exact e2.symm
  rw [sp,List.filter_append,List.filter_cons,if_pos h2] at ih
  have hg:=gW (r:=r) (k:=s) (by omega)
  obtain ⟨hs,hg⟩:=List.getElem?_eq_some_iff.mp hg
  have hd:(esL r).drop s=pe r s::(esL r).drop (s+1):=by
   rw [List.drop_eq_getElem_cons hs,hg]
  rw [hd] at ih
  have none:(List.range' (fs r s) (pe r s - fs r s)).filter (mayEnd r)=[]:=by
   cases e:(List.range' (fs r s) (pe r s - fs r s)).filter (mayEnd r) with
   | nil=>rfl
   | cons x q=>
    rw [e] at ih
    have z:x=pe r s:=(List.cons.inj ih).1
    have m:x∈(List.range' (fs r s) (pe r s - fs r s)).filter (mayEnd r):=by
     rw [e]
     exact List.mem_cons_self
    have m:=(List.mem_filter.mp m).1
    rw [List.mem_range'] at m
    omega
  rw [none,List.nil_append] at ih
  exact (List.cons.inj ih).2
theorem tT (r:Row)(m:Measure)(s:Nat)(h:s < (esL r).length):cands r m (fs r s)=(List.range ((esL r).length - s)).map fun t=>withLine r m (fs r s) (pe r (s+t)) (bJ r m (fs r (s+t+1))):=by
 have e1:cands r m (fs r s)=((List.range' (fs r s) (r.length - fs r s)).filter (mayEnd r)).map fun j=>withLine r m (fs r s) j (bJ r m (j+1)):=by
  unfold cands
  rw [List.range'_eq_map_range,List.filter_map,List.map_map]
  generalize List.range (r.length - fs r s)=l
  induction l with
  | nil=>rfl
  | cons t l ih=>
   rw [List.filterMap_cons,List.filter_cons]
   simp only [Function.comp]
   by_cases q:mayEnd r (fs r s+t)=true
   ·rw [if_pos q,if_pos q,List.map_cons]
    simp only
    rw [ih]
    rfl
   ·rw [if_neg q,if_neg q]
    simp only
    rw [ih]
 rw [e1,x9 r s (by omega)]
 apply List.ext_getElem
 ·simp
 ·intro i h1 h2
  have hi:s+i < (esL r).length:=by simp at h1;omega
  rw [List.getElem_map,List.getElem_map,List.getElem_range,List.getElem_drop]
  have hg:=gW (r:=r) (k:=s+i) hi
  obtain ⟨_,hg⟩:=List.getElem?_eq_some_iff.mp hg
  rw [hg]
  rfl
structure Fine (r:Row):Prop where
 item:∀ a∈r,0<=a.width/\0<=a.space/\0<=a.shrink/\a.shrink<=a.space/\-1<=a.cost
def aw (r:Row)(k:Nat):Int:=ahead (fun a=>a.width+a.space) r k
def ash (r:Row)(k:Nat):Int:=ahead (fun a=>a.shrink) r k
def wid (r:Row)(k:Nat):Int:=(r[k]?.map fun a=>a.width).getD 0
def xG (r:Row)(k:Nat):Int:=(r[k]?.map fun a=>a.cost).getD 0
def pcs (r:Row):Pcs:={n:=ak r,L:=fun k=>aw r (fs r k),R:=fun k=>aw r (pe r k)+wid r (pe r k),TL:=fun k=>aw r (fs r k) - ash r (fs r k),TR:=fun k=>aw r (pe r k)+wid r (pe r k) - ash r (pe r k),C:=fun k=>xG r (pe r k)}
theorem lj {r:Row}{k:Nat}{a:Item}(h:r[k]?=some a):wid r k=a.width:=by unfold wid;rw [h];rfl
theorem qt {r:Row}{k:Nat}{a:Item}(h:r[k]?=some a):xG r k=a.cost:=by unfold xG;rw [h];rfl
theorem oH {r:Row}(f:Fine r)(i:Nat):∀ d,i+d<=r.length->aw r i<=aw r (i+d)/\aw r i - ash r i<=aw r (i+d) - ash r (i+d)/\0<=ash r (i+d) - ash r i
 | 0,_=>by
  rw [Nat.add_zero]
  omega
 | d+1,h=>by
  have ih:=oH f i d (by omega)
  have hk:i+d < r.length:=by omega
  have hg:r[i+d]?=some r[i+d]:=List.getElem?_eq_getElem hk
  have e1:=bZ (fun a=>a.width+a.space) r (i+d) _ hg
  have e2:=bZ (fun a=>a.shrink) r (i+d) _ hg
  have q:=f.item r[i+d] (List.getElem_mem hk)
  unfold aw ash at *
  rw [show i+(d+1)=i+d+1 by omega]
  omega
theorem yP {r:Row}(f:Fine r){i j:Nat}(h:i<=j)(hj:j < r.length):aw r i+wid r i<=aw r j+wid r j/\aw r i+wid r i - ash r i<=aw r j+wid r j - ash r j:=by
 rcases Nat.lt_or_eq_of_le h with q | q
 ·have hi:i < r.length:=by omega
  have g1:r[i]?=some r[i]:=List.getElem?_eq_getElem hi
  have g2:r[j]?=some r[j]:=List.getElem?_eq_getElem hj
  have e1:=bZ (fun a=>a.width+a.space) r i _ g1
  have e2:=bZ (fun a=>a.shrink) r i _ g1
  have s:=oH f (i+1) (j - (i+1)) (by omega)
  rw [show i+1+(j - (i+1))=j by omega] at s
  have q1:=f.item r[i] (List.getElem_mem hi)
  have q2:=f.item r[j] (List.getElem_mem hj)
  rw [lj g1,lj g2]
  unfold aw ash at *
  omega
 ·subst q
  omega
theorem aO {r:Row}(hr:r≠[]){k:Nat}:k<=ak r ↔ k < (esL r).length:=by
 have:=cR r hr
 unfold ak
 omega
theorem aaN {r:Row}(hr:r≠[])(f:Fine r):(pcs r).Ok:=by
 have fsl:∀ k,k<=ak r->fs r k<=r.length:=fun k h=>by
  have:=fo (r:=r) (Nat.le_refl k) ((aO hr).mp h)
  have:=(eM ((aO hr).mp h)).1
  omega
 refine ⟨fun i j h hj=>?_,fun i j h hj=>?_,fun i j h hj=>?_,fun i j h hj=>?_,fun i h=>?_⟩
 ·have hl:=adm (r:=r) h (Nat.le_of_lt ((aO hr).mp hj))
  have s:=oH f (fs r i) (fs r j - fs r i) (by have:=fsl j hj;omega)
  rw [show fs r i+(fs r j - fs r i)=fs r j by omega] at s
  exact s.1
 ·exact (yP f (adp h ((aO hr).mp hj)) (eM ((aO hr).mp hj)).1).1
 ·have hl:=adm (r:=r) h (Nat.le_of_lt ((aO hr).mp hj))
  have s:=oH f (fs r i) (fs r j - fs r i) (by have:=fsl j hj;omega)
  rw [show fs r i+(fs r j - fs r i)=fs r j by omega] at s
  exact s.2.1
 ·exact (yP f (adp h ((aO hr).mp hj)) (eM ((aO hr).mp hj)).1).2
 ·have hi:i < ak r:=h
  have h1:=(aO hr).mp (Nat.le_of_lt hi)
  obtain ⟨m1,m2⟩:=eM h1
  have g:r[pe r i]?=some r[pe r i]:=List.getElem?_eq_getElem m1
  have ne:pe r i+1≠r.length:=by
   have:=sk hi ((aO hr).mp (Nat.le_refl _))
   rw [oJ hr] at this
   omega
  rw [tZ r _ _ ne g] at m2
  show 0<=xG r (pe r i)
  rw [qt g]
  exact of_decide_eq_true m2
theorem oT {r:Row}{s e:Nat}(room:Int)(h:s<=e)(he:e < (esL r).length):slackOf room (slice r (fs r s) (pe r e))=slk (pcs r) room s e:=by
 have m:=(eM he).1
 have g:r[pe r e]?=some r[pe r e]:=List.getElem?_eq_getElem m
 unfold slackOf slk
 rw [j0 r (fs r s) (pe r e) _ (fo h he) g]
 show _=room - (aw r (pe r e)+wid r (pe r e) - aw r (fs r s))
 rw [lj g]
 unfold aw
 omega
theorem vW {r:Row}{s e:Nat}(room:Int)(h:s<=e)(he:e < (esL r).length):overOf room (slice r (fs r s) (pe r e))=ovf (pcs r) room s e:=by
 have m:=(eM he).1
 have g:r[pe r e]?=some r[pe r e]:=List.getElem?_eq_getElem m
 unfold overOf
 rw [oT room h he,lh r (fs r s) (pe r e) _ (fo h he) g]
 unfold atLeast0 slk ovf
 show (if -(room - (aw r (pe r e)+wid r (pe r e) - aw r (fs r s))) - (ash r (pe r e) - ash r (fs r s)) < 0 then (0:Int) else -(room - (aw r (pe r e)+wid r (pe r e) - aw r (fs r s))) - (ash r (pe r e) - ash r (fs r s))) =
  max 0 ((aw r (pe r e)+wid r (pe r e) - ash r (pe r e)) - (aw r (fs r s) - ash r (fs r s)) - room)
 split<;>omega
theorem yD {r:Row}(hr:r≠[]){e:Nat}(he:e < (esL r).length):pe r e+1=r.length ↔ e=ak r:=by
 constructor
 ·intro h
  by_cases q:e=ak r
  ·exact q
  ·have:=sk (r:=r) (i:=e) (j:=ak r) (by have:=(aO hr).mpr he;omega) ((aO hr).mp (Nat.le_refl _))
   rw [oJ hr] at this
   omega
 ·intro h
  have:=cR r hr
  have hl:0 < r.length:=List.length_pos_iff.mpr hr
  rw [h,oJ hr]
  omega
theorem wA {r:Row}(hr:r≠[]){s e:Nat}(room:Int)(h:s<=e)(he:e < (esL r).length):costOf room (decide (pe r e+1=r.length)) (slice r (fs r s) (pe r e))=cst (pcs r) e (slk (pcs r) room s e):=by
 have m:=(eM he).1
 have g:r[pe r e]?=some r[pe r e]:=List.getElem?_eq_getElem m
 unfold costOf
 simp only [oT room h he]
 unfold cst
 by_cases q:e=ak r
 ·rw [decide_eq_true ((yD hr he).mpr q),if_pos rfl,if_neg (show ¬ e < (pcs r).n by show ¬ e < ak r;omega)]
 ·have:=(aO hr).mpr he
  rw [decide_eq_false (fun z=>q ((yD hr he).mp z)),if_neg Bool.false_ne_true,if_pos (show e < (pcs r).n by show e < ak r;omega),wX r (fs r s) (pe r e) _ (fo h he) g]
  show _=_+xG r (pe r e)
  rw [qt g]
def pb (r:Row)(j:Nat):Nat:=((List.range j).filter (mayEnd r)).length
theorem afr {r:Row}{k:Nat}(h:k < (esL r).length):pb r (pe r k)=k:=by
 obtain ⟨m1,m2⟩:=eM h
 have sp:esL r=(List.range (pe r k)).filter (mayEnd r)++(List.range' (pe r k) (r.length - pe r k)).filter (mayEnd r):=by
  unfold esL
  rw [<-List.filter_append]
  congr 1
  rw [List.range_eq_range',List.range_eq_range']
  have e2:=List.range'_append (s:=0) (m:=pe r k) (n:=r.length - pe r k) (step:=1)
  rw [show 0+1 * pe r k=pe r k by omega,show pe r k+(r.length - pe r k)=r.length by omega] at e2
  exact e2.symm
 have hd:(List.range' (pe r k) (r.length - pe r k)).filter (mayEnd r)=pe r k::(List.range' (pe r k+1) (r.length - (pe r k+1))).filter (mayEnd r):=by
  rw [show r.length - pe r k=(r.length - (pe r k+1))+1 by omega,List.range'_succ,List.filter_cons,if_pos m2]
 rw [hd] at sp
 have g:(esL r)[pb r (pe r k)]?=some (pe r k):=by
  rw [sp]
  unfold pb
  rw [List.getElem?_append_right (Nat.le_refl _),Nat.sub_self]
  rfl
 have hlt:=(List.getElem?_eq_some_iff.mp g).1
 have e:=Option.some.inj ((gW hlt).symm.trans g)
 rcases Nat.lt_trichotomy (pb r (pe r k)) k with q | q | q
 ·have:=sk q h
  omega
 ·exact q
 ·have:=sk q hlt
  omega
def iZ (r:Row)(b:Broken):Wy:=⟨b.worth.over,b.worth.cost,b.worth.lines,pb r (b.ends.headD 0)⟩
def wyT (r:Row)(m:Measure)(s:Nat):Wy:=iZ r (bJ r m (fs r s))
theorem fw {r:Row}(hr:r≠[])(m:Measure){s e:Nat}(b:Broken)(h:s<=e)(he:e < (esL r).length):iZ r (withLine r m (fs r s) (pe r e) b)=gv (pcs r) (roomOf m (fs r s)) s e (iZ r b):=by
 unfold iZ withLine gv
 simp only [Worth.behind,List.headD_cons]
 rw [afr he,vW _ h he,wA hr _ h he]
 congr 1
 omega
theorem aaw {r:Row}(hr:r≠[])(m:Measure):wyT r m (ak r+1)=nil4:=by
 unfold wyT
 rw [abO hr,jx r m _ (Nat.le_refl _)]
 rfl
theorem jn {r:Row}(hr:r≠[])(m:Measure){s:Nat}(h:s < (esL r).length):∃ e,s<=e/\e < (esL r).length/\bJ r m (fs r s)=withLine r m (fs r s) (pe r e) (bJ r m (fs r (e+1)))/\
  d3 (pcs r) (roomOf m (fs r s)) (wyT r m) s s (ak r) (wyT r m s):=by
 have hi:fs r s < r.length:=Nat.lt_of_le_of_lt (fo (Nat.le_refl s) h) (eM h).1
 have key:∀ (f:Nat->Broken) (d a:Nat),a+d < (esL r).length->s<=a->(∀ t,f t=withLine r m (fs r s) (pe r t) (bJ r m (fs r (t+1))))->
   ∃ e,s<=e/\e<=a+d/\((List.range' (a+1) d).map f).foldl pick (f a)=f e/\(∀ t,a<=t->t<=a+d->Wy.le (iZ r (f e)) (iZ r (f t)))/\(a<=e):=by
  intro f d a had hsa hf
  induction d with
  | zero=>
   refine ⟨a,hsa,Nat.le_refl _,rfl,fun t h1 h2=>?_,Nat.le_refl _⟩
   rw [show t=a by omega]
   exact Wy.le_refl _
  | succ d ih=>
   obtain ⟨e,q1,q2,q3,q4,q5⟩:=ih (by omega)
   rw [List.range'_concat,List.map_append,List.foldl_append,q3]
   show ∃ e',s<=e'/\e'<=a+(d+1)/\pick (f e) (f (a+1+1 * d))=f e'/\_
   rw [show a+1+1 * d=a+d+1 by omega]
   have w1:iZ r (f e)=gv (pcs r) (roomOf m (fs r s)) s e (wyT r m (e+1)):=by rw [hf,fw hr m _ (by omega) (by omega)];rfl
   have w2:iZ r (f (a+d+1))=gv (pcs r) (roomOf m (fs r s)) s (a+d+1) (wyT r m (a+d+1+1)):=by rw [hf,fw hr m _ (by omega) (by omega)];rfl
   have we:(iZ r (f e)).e=e:=by rw [w1];rfl
   have we':(iZ r (f (a+d+1))).e=((a+d+1:Nat):Int):=by rw [w2];rfl
   unfold pick
   by_cases b:betterWorth (f (a+d+1)).worth (f e).worth=true
   ·rw [if_pos b]
    have b':=(iq _ _).mp b
    refine ⟨a+d+1,by omega,by omega,rfl,fun t h1 h2=>?_,by omega⟩
    by_cases ht:t=a+d+1
    ·rw [ht]
     exact Wy.le_refl _
    ·refine Wy.le_trans ?_ (q4 t h1 (by omega))
     unfold Wy.le iZ
     simp only
     omega
   ·rw [if_neg b]
    have b':=fun z=>b ((iq _ _).mpr z)
    refine ⟨e,q1,by omega,rfl,fun t h1 h2=>?_,q5⟩
    by_cases ht:t=a+d+1
    ·rw [ht]
     have z:¬ ((f (a+d+1)).worth.over < (f e).worth.over\/(f (a+d+1)).worth.over=(f e).worth.over/\((f (a+d+1)).worth.cost < (f e).worth.cost\/(f (a+d+1)).worth.cost=(f e).worth.cost/\(f (a+d+1)).worth.lines < (f e).worth.lines)):=b'
     have l1:(iZ r (f e)).o=(f e).worth.over:=rfl
     have l2:(iZ r (f e)).c=(f e).worth.cost:=rfl
     have l3:(iZ r (f e)).k=(f e).worth.lines:=rfl
     have l4:(iZ r (f (a+d+1))).o=(f (a+d+1)).worth.over:=rfl
     have l5:(iZ r (f (a+d+1))).c=(f (a+d+1)).worth.cost:=rfl
     have l6:(iZ r (f (a+d+1))).k=(f (a+d+1)).worth.lines:=rfl
     unfold Wy.le
     rw [we,we',l1,l2,l3,l4,l5,l6]
     omega
    ·exact q4 t h1 (by omega)
 obtain ⟨b,l,e1,e2⟩:=kj r m (fs r s) hi
 rw [tT r m s h,show (esL r).length - s=((esL r).length - s - 1)+1 by omega,List.range_succ_eq_map,List.map_cons,List.map_map] at e1
 have hb:=(List.cons.inj e1).1
 have hl:=(List.cons.inj e1).2
 obtain ⟨e,q1,q2,q3,q4,q5⟩:=key (fun t=>withLine r m (fs r s) (pe r t) (bJ r m (fs r (t+1)))) ((esL r).length - s - 1) s (by omega) (Nat.le_refl _) fun _=>rfl
 have hl':(List.range' (s+1) ((esL r).length - s - 1)).map (fun t=>withLine r m (fs r s) (pe r t) (bJ r m (fs r (t+1))))=l:=by
  rw [<-hl,List.range'_eq_map_range,List.map_map]
  apply List.map_congr_left
  intro t _
  simp only [Function.comp]
  rw [show s+1+t=s+t.succ by omega]
 have hb':withLine r m (fs r s) (pe r s) (bJ r m (fs r (s+1)))=b:=hb
 rw [hl',hb',<-e2] at q3
 refine ⟨e,q1,by omega,q3,⟨e,q1,by have:=(aO hr (k:=e)).mpr (by omega);exact this,?_⟩,fun t h1 h2=>?_⟩
 ·show iZ r (bJ r m (fs r s))=_
  rw [q3,fw hr m _ q1 (by omega)]
  rfl
 ·have ht:=(aO hr).mp h2
  have z:=q4 t h1 (by omega)
  rw [<-q3,fw hr m (s:=s) (e:=t) _ h1 ht] at z
  exact z
theorem yt {r:Row}(hr:r≠[])(m:Measure):Good (pcs r) (m.measure - m.indent) (wyT r m) 1:=by
 refine ⟨aaw hr m,fun s h1 h2=>?_⟩
 obtain ⟨e,_,_,_,b⟩:=jn hr m ((aO hr).mp h2)
 have e:roomOf m (fs r s)=m.measure - m.indent:=by
  unfold roomOf
  rw [if_neg (fun z=>by have:=wZ.mp z;omega)]
 rw [e] at b
 exact b
theorem abi {r:Row}(hr:r≠[])(m:Measure):d3 (pcs r) (m.measure - m.first) (wyT r m) 0 0 (ak r) (wyT r m 0):=by
 obtain ⟨e,_,_,_,b⟩:=jn hr m (cR r hr)
 exact b
end Bp
namespace Bp
open Vamati
structure Sp5 where
 first:Int
 last:Int
 slack:Int
 over:Int
 cost:Int
 deriving DecidableEq
def ji (r:Row)(m:Measure)(p:Nat×Nat):Sp5:=
 ⟨p.1,p.2,slackOf (roomOf m p.1) (slice r p.1 p.2),overOf (roomOf m p.1) (slice r p.1 p.2),costOf (roomOf m p.1) (decide (p.2+1=r.length)) (slice r p.1 p.2)⟩
def bw (r:Row)(m:Measure)(i:Nat):List Sp5:=(linesOf i (bJ r m i).ends).map (ji r m)
def bC (r:Row)(m:Measure):List Sp5:=(linesOf 0 (bestOf r m).ends).map (ji r m)
theorem wY (r:Row)(m:Measure):bC r m=bw r m 0:=rfl
theorem jV (r:Row)(m:Measure)(i:Nat)(h:r.length<=i):bw r m i=[]:=by
 unfold bw
 rw [jx r m i h]
 rfl
def pN (r:Row)(room:Int)(s e:Nat):Sp5:=⟨fs r s,pe r e,slk (pcs r) room s e,ovf (pcs r) room s e,cst (pcs r) e (slk (pcs r) room s e)⟩
def sx (m:Measure)(s:Nat):Int:=if s=0 then m.measure - m.first else m.measure - m.indent
theorem ac2 (r:Row)(m:Measure)(s:Nat):roomOf m (fs r s)=sx m s:=by
 unfold roomOf sx
 by_cases h:s=0
 ·rw [if_pos h,if_pos (wZ.mpr h)]
 ·rw [if_neg h,if_neg fun z=>h (wZ.mp z)]
def i6 (r:Row)(m:Measure)(s:Nat):Nat:=(wyT r m s).e.toNat
theorem iB {r:Row}(hr:r≠[])(m:Measure){s:Nat}(h:s<=ak r):s<=i6 r m s/\i6 r m s<=ak r/\(wyT r m s).e=(i6 r m s:Int)/\bw r m (fs r s)=pN r (sx m s) s (i6 r m s)::bw r m (fs r (i6 r m s+1)):=by
 have h':=(aO hr).mp h
 obtain ⟨e,h1,h2,h3,_⟩:=jn hr m h'
 have he:(wyT r m s).e=(e:Int):=by
  unfold wyT
  rw [h3,fw hr m _ h1 h2]
  rfl
 have hE:i6 r m s=e:=by
  unfold i6
  rw [he]
  rfl
 rw [hE]
 refine ⟨h1,(aO hr).mpr h2,he,?_⟩
 unfold bw
 rw [h3]
 show (linesOf (fs r s) (pe r e::(bJ r m (fs r (e+1))).ends)).map (ji r m)=_
 show ji r m (fs r s,pe r e)::(linesOf (pe r e+1) (bJ r m (fs r (e+1))).ends).map (ji r m)=_
 congr 1
 unfold ji pN
 simp only
 rw [ac2,oT _ h1 h2,vW _ h1 h2,wA hr _ h1 h2]
theorem kf (r:Row)(m:Measure):∀ (k i:Nat),r.length - i=k->(bJ r m i).worth.over=((bw r m i).map fun x=>x.over).sum/\(bJ r m i).worth.cost=((bw r m i).map fun x=>x.cost).sum/\(bJ r m i).worth.lines=(bw r m i).length:=by
 intro k
 induction k using Nat.strongRecOn with
 | _ k ih=>
  intro i hk
  by_cases hi:i < r.length
  ·obtain ⟨b,l,e,z⟩:=kj r m i hi
   have mem:bJ r m i∈cands r m i:=by
    rw [z,e]
    have pm:∀ (l:List Broken) (b:Broken),l.foldl pick b∈b::l:=by
     intro l
     induction l with
     | nil=>intro b;exact List.mem_cons_self
     | cons x l ih3=>
      intro b
      rw [List.foldl_cons]
      rcases List.mem_cons.mp (ih3 (pick b x)) with w | w
      ·rw [w]
       unfold pick
       split
       ·exact List.mem_cons_of_mem _ List.mem_cons_self
       ·exact List.mem_cons_self
      ·exact List.mem_cons_of_mem _ (List.mem_cons_of_mem _ w)
    exact pm l b
   unfold cands at mem
   obtain ⟨t,ht,w⟩:=List.mem_filterMap.mp mem
   by_cases me:mayEnd r (i+t)=true
   ·rw [if_pos me] at w
    have w:=Option.some.inj w
    have q:=ih (r.length - (i+t+1)) (by omega) (i+t+1) rfl
    have en:bw r m i=ji r m (i,i+t)::bw r m (i+t+1):=by
     unfold bw
     rw [<-w]
     rfl
    rw [en,<-w]
    unfold withLine
    simp only [Worth.behind,List.map_cons,List.sum_cons,List.length_cons]
    rw [q.1,q.2.1,q.2.2]
    exact ⟨rfl,rfl,rfl⟩
   ·rw [if_neg me] at w
    cases w
  ·rw [jx r m i (by omega),jV r m i (by omega)]
   exact ⟨rfl,rfl,rfl⟩
theorem xy (r:Row)(m:Measure):(bestOf r m).worth.over=((bC r m).map fun x=>x.over).sum:=(kf r m _ 0 rfl).1
theorem xm (r:Row)(m:Measure):(bestOf r m).worth.cost=((bC r m).map fun x=>x.cost).sum:=(kf r m _ 0 rfl).2.1
theorem vJ (r:Row)(m:Measure):(bestOf r m).worth.lines=(bC r m).length:=(kf r m _ 0 rfl).2.2
structure Bound (r:Row):Prop where
 fine:Fine r
 item:∀ a∈r,a.width<=10000000/\a.space<=10000000
 len:r.length<=1000
theorem pJ {r:Row}(b:Bound r):∀ k,k<=r.length->0<=aw r k/\aw r k<=20000000 * k
 | 0,_=>by
  have:aw r 0=0:=rfl
  omega
 | k+1,h=>by
  have ih:=pJ b k (by omega)
  have hk:k < r.length:=by omega
  have hg:r[k]?=some r[k]:=List.getElem?_eq_getElem hk
  have e1:=bZ (fun a=>a.width+a.space) r k _ hg
  have q:=b.fine.item r[k] (List.getElem_mem hk)
  have q2:=b.item r[k] (List.getElem_mem hk)
  unfold aw at *
  omega
theorem zG {r:Row}(hr:r≠[])(b:Bound r){room:Int}(h1:-1000000000<=room)(h2:room<=1000000000){s e:Nat}(hs:s<=ak r)(he:e<=ak r):-100000000000<=slk (pcs r) room s e/\slk (pcs r) room s e<=100000000000:=by
 have hs:=(aO hr).mp hs
 have he:=(aO hr).mp he
 have m:=(eM he).1
 have m2:=(eM hs).1
 have m3:=fo (Nat.le_refl s) hs
 have g:r[pe r e]?=some r[pe r e]:=List.getElem?_eq_getElem m
 have a1:=pJ b (pe r e) (Nat.le_of_lt m)
 have a2:=pJ b (fs r s) (by omega)
 have q:=b.fine.item r[pe r e] (List.getElem_mem m)
 have q2:=b.item r[pe r e] (List.getElem_mem m)
 have l:=b.len
 show _<=room - (aw r (pe r e)+wid r (pe r e) - aw r (fs r s))/\room - (aw r (pe r e)+wid r (pe r e) - aw r (fs r s))<=_
 rw [lj g]
 omega
end Bp
namespace Bp
open Vamati Vamatk
def size3 (a:Item):List Int:=[a.width,a.height,a.depth]
def aB (b:Block):List (List Int):=match b.body with
 | .paragraph _ row=>row.map size3
 | .display _ w h d=>[[w,h,d]]
def bf (w:Int):Item:={width:=w,height:=0,depth:=0,space:=0,stretch:=0,shrink:=0,cost:=0}
def fB (room:Int):Vamati.Measure:={measure:=room,first:=0,indent:=0}
def fC (s:Settings)(b:Block):List Sp5:=match b.body with
 | .paragraph f row=>bC row (measureOf s f)
 | .display _ w _ _=>bC [bf w] (fB s.measure)
theorem oZ (w x:Int):∃ c,bC [bf w] (fB x)=[⟨0,0,x - w,atLeast0 (w - x),c⟩]:=by
 refine ⟨costOf (roomOf (fB x) 0) true (slice [bf w] 0 0),?_⟩
 show [ji [bf w] (fB x) (0,0)]=_
 have hs:slackOf (roomOf (fB x) 0) (slice [bf w] 0 0)=x - w:=by
  show (x - 0) - naturalOf [bf w]=_
  rw [m7]
  show x - 0 - w=_
  omega
 have ho:overOf (roomOf (fB x) 0) (slice [bf w] 0 0)=atLeast0 (w - x):=by
  unfold overOf
  rw [hs]
  show atLeast0 (-(x - w) - shrinkOf [bf w])=_
  rw [pL]
  congr 1
  omega
 unfold ji
 simp only
 rw [hs,ho]
 rfl
def pC (i:Nat)(sizes:List (List Int))(x:Sp5):Line:=
 {block:=i,from_:=x.first.toNat,to_:=x.last.toNat,
  height:=greatest (((sizes.take (x.last.toNat+1)).drop x.first.toNat).map fun z=>z.getD 1 0),
  depth:=greatest (((sizes.take (x.last.toNat+1)).drop x.first.toNat).map fun z=>z.getD 2 0),
  over:=x.over,first:=decide (x.first=0),last:=decide (x.last=(sizes.length:Int) - 1)}
theorem wc (row:Vamati.Row)(p q:Nat)(g:List Int->Int)(f:Item->Int)(h:∀ a,g (size3 a)=f a):(((row.map size3).take (q+1)).drop p).map g=(slice row p q).map f:=by
 unfold slice
 rw [<-List.map_take,<-List.map_drop,List.map_map]
 apply List.map_congr_left
 intro a _
 exact h a
theorem jY (s:Settings)(i:Nat)(b:Block):blockLines s i b=(fC s b).map (pC i (aB b)):=by
 unfold blockLines fC aB
 cases b.body with
 | display way w h d=>
  simp only
  obtain ⟨c,e⟩:=oZ w s.measure
  rw [e]
  rfl
 | paragraph first row=>
  simp only
  unfold bC
  rw [List.map_map]
  apply List.map_congr_left
  intro p _
  simp only [Function.comp]
  unfold pC ji
  simp only [Int.toNat_natCast,List.length_map]
  rw [wc row p.1 p.2 _ (fun a=>a.height) (fun _=>rfl),wc row p.1 p.2 _ (fun a=>a.depth) (fun _=>rfl)]
  unfold heightOf depthOf
  congr 1
  ·rw [Bool.eq_iff_iff]
   simp
  ·rw [Bool.eq_iff_iff]
   simp only [decide_eq_true_iff]
   omega
theorem mY:∀ (l:List Int) (lo hi:Int),l≠[]->(∀ x∈l,lo<=x/\x<=hi)->lo<=greatest l/\greatest l<=hi
 | [],lo,hi,h,_=>absurd rfl h
 | a::r,lo,hi,_,h=>by
  show lo<=r.foldl (fun (m:Int) x=>max m x) a/\r.foldl (fun (m:Int) x=>max m x) a<=hi
  have key:∀ (r:List Int) (a:Int),lo<=a/\a<=hi->(∀ x∈r,lo<=x/\x<=hi)->lo<=r.foldl (fun (m:Int) x=>max m x) a/\r.foldl (fun (m:Int) x=>max m x) a<=hi:=by
   intro r
   induction r with
   | nil=>intro a h _;exact h
   | cons y r ih=>
    intro a h1 h2
    rw [List.foldl_cons]
    refine ih _ ?_ fun x hx=>h2 x (List.mem_cons_of_mem _ hx)
    have:=h2 y List.mem_cons_self
    omega
  exact key r a (h a List.mem_cons_self) fun x hx=>h x (List.mem_cons_of_mem _ hx)
structure mG (st:Vamatk.State)(l:Line):Prop where
 blk:l.block < st.blocks.length
 h1:-1000000<=l.height
 h2:l.height<=1000000
 d1:-1000000<=l.depth
 d2:l.depth<=1000000
 ft:l.from_<=l.to_
 fst:l.first=decide (l.from_=0)
 to:l.to_ < match st.blocks[l.block]? with
  | some b=>(aB b).length
  | none=>0
theorem jG {a:Item}(h:Vamati.good a=true):(0<=a.width/\a.width<=1000000)/\(0<=a.space/\a.space<=1000000)/\(0<=a.shrink/\a.shrink<=1000000)/\a.shrink<=a.space/\(-1000000<=a.height/\a.height<=1000000)/\(-1000000<=a.depth/\a.depth<=1000000)/\(-1<=a.cost/\a.cost<=1000000):=by
 unfold Vamati.good Vamati.MOST at h
 simp only [Bool.and_eq_true,eN,decide_eq_true_iff] at h
 omega
theorem sr {b s u c f:Int}{row:Vamati.Row}(h:goodBlock (para b s u c f row)=true):(0<=b/\b<=1000000)/\(0<=u/\u<=b)/\(-1<=c/\c<=1000000)/\(0<=f/\f<=100000000)/\∀ a∈row,Vamati.good a=true:=by
 unfold goodBlock para goodBody Vamatk.within Vamatk.MOST Vamatk.FARMOST at h
 simp only [Bool.and_eq_true,eN,decide_eq_true_iff,List.all_eq_true] at h
 obtain ⟨h1,h2,h3,h4,h5,h6,h7⟩:=h
 refine ⟨h1,by omega,h5,h6,h7⟩
theorem rX {b:Block}(h:goodBlock b=true):(0<=b.before/\b.before<=1000000)/\(0<=b.shrink/\b.shrink<=b.before)/\(-1<=b.cost/\b.cost<=1000000):=by
 unfold goodBlock Vamatk.within Vamatk.MOST at h
 simp only [Bool.and_eq_true,eN,decide_eq_true_iff] at h
 omega
theorem gY {s:Settings}(h:goodSettings s=true):(0<=s.measure/\s.measure<=100000000)/\(0<=s.indent/\s.indent<=100000000)/\(0<=s.lead/\s.lead<=1000000)/\(0<=s.gap/\s.gap<=1000000)/\(0<=s.page/\s.page<=100000000)/\(-1<=s.orphan/\s.orphan<=1000000):=by
 unfold goodSettings Vamatk.within Vamatk.MOST Vamatk.FARMOST at h
 simp only [Bool.and_eq_true,eN] at h
 omega
theorem pj {st:Vamatk.State}(so:Sound st){b:Block}(hb:b∈st.blocks):(∃ f row,b=para b.before b.stretch b.shrink b.cost f row/\row≠[]/\row.length<=600)\/∃ y w h d,b=disp b.before b.stretch b.shrink b.cost y w h d/\(0<=w/\w<=1000000)/\(-1000000<=h/\h<=1000000)/\(-1000000<=d/\d<=1000000):=by
 obtain ⟨g,e⟩:=so.blocks b hb
 have t:=kv e
 obtain ⟨b0,s0,u0,c0,body⟩:=b
 cases body with
 | paragraph f row=>
  refine .inl ⟨f,row,rfl,?_,?_⟩
  ·intro z
   subst z
   have e:Vamatk.blockOf (b0::s0::u0::c0::0::f::[])=some _:=e
   rw [iG] at e
   cases e
  ·have h:=so.items
   obtain ⟨i,hi,hg⟩:=List.getElem_of_mem hb
   have:=cU st.blocks i _ (by rw [List.getElem?_eq_getElem hi,hg])
   have z:Vamatk.itemCount {before:=b0,stretch:=s0,shrink:=u0,cost:=c0,body:=Body.paragraph f row}=row.length:=rfl
   omega
 | display y w h d=>
  refine .inr ⟨y,w,h,d,rfl,?_⟩
  unfold goodBlock goodBody Vamatk.within Vamatk.MOST at g
  simp only [Bool.and_eq_true,eN,decide_eq_true_iff] at g
  omega
theorem uZ {row:Vamati.Row}{p q:Nat}(h1:p<=q)(h2:q < row.length):slice row p q≠[]:=by
 intro e
 have:=fJ row p q h2
 rw [e] at this
 simp at this
 omega
theorem sn {row:Vamati.Row}{p q:Nat}{a:Item}(h:a∈slice row p q):a∈row:=List.mem_of_mem_take (List.mem_of_mem_drop h)
theorem rQ {st:Vamatk.State}(so:Sound st){i:Nat}{b:Block}(hb:st.blocks[i]?=some b):∀ l∈blockLines st.settings i b,mG st l/\l.block=i:=by
 intro l hl
 have hi:=(List.getElem?_eq_some_iff.mp hb).1
 rcases pj so (List.mem_of_getElem? hb) with ⟨f,row,e,hne,hlen⟩ | ⟨y,w,h,d,e,hw,hh,hd⟩
 ·have gb:=(so.blocks b (List.mem_of_getElem? hb)).1
  rw [e] at gb
  obtain ⟨_,_,_,_,gi⟩:=sr gb
  rw [e] at hl
  have hl:l∈(linesOf 0 (bestOf row (measureOf st.settings f)).ends).map _:=hl
  obtain ⟨p,hp,rfl⟩:=List.mem_map.mp hl
  obtain ⟨_,q2,q3,_⟩:=kG row _ 0 (best_breaking row (measureOf st.settings f)) p hp
  have gh:=mY ((slice row p.1 p.2).map fun a=>a.height) (-1000000) 1000000 (by simpa using uZ q2 q3) (by
   intro x hx
   obtain ⟨a,ha,rfl⟩:=List.mem_map.mp hx
   have:=jG (gi a (sn ha))
   exact this.2.2.2.2.1)
  have gd:=mY ((slice row p.1 p.2).map fun a=>a.depth) (-1000000) 1000000 (by simpa using uZ q2 q3) (by
   intro x hx
   obtain ⟨a,ha,rfl⟩:=List.mem_map.mp hx
   have:=jG (gi a (sn ha))
   exact this.2.2.2.2.2.1)
  refine ⟨⟨hi,gh.1,gh.2,gd.1,gd.2,q2,rfl,?_⟩,rfl⟩
  show p.2 < (match st.blocks[i]? with
   | some b=>(aB b).length
   | none=>0)
  rw [hb,e]
  show p.2 < (row.map size3).length
  rw [List.length_map]
  exact q3
 ·rw [e] at hl
  have hl:l∈[_]:=hl
  have e2:=List.mem_singleton.mp hl
  subst e2
  refine ⟨⟨hi,hh.1,hh.2,hd.1,hd.2,Nat.le_refl _,rfl,?_⟩,rfl⟩
  show 0 < (match st.blocks[i]? with
   | some b=>(aB b).length
   | none=>0)
  rw [hb,e]
  show 0 < 1
  omega
theorem fZ {α:Type}{l:List α}{x:α×Nat}(h:x∈l.zipIdx):l[x.2]?=some x.1:=by
 obtain ⟨a,i⟩:=x
 have:=List.mem_zipIdx_iff_getElem?.mp h
 exact this
theorem gP {st:Vamatk.State}(so:Sound st):∀ l∈allLines st,mG st l:=by
 intro l hl
 unfold allLines at hl
 obtain ⟨x,hx,hl⟩:=List.mem_flatMap.mp hl
 exact (rQ so (fZ hx) l hl).1
def pM (a:Line):Item:={width:=atLeast0 (a.height+a.depth),height:=0,depth:=0,space:=0,stretch:=0,shrink:=0,cost:=0}
def bY (st:Vamatk.State)(a b:Line):Item:=
 {width:=atLeast0 (a.height+a.depth),height:=0,depth:=0,space:=spaceBetween st.settings a b st.blocks[b.block]?,
  stretch:=(if b.first=true then ((st.blocks[b.block]?.map fun k=>k.stretch).getD 0,(st.blocks[b.block]?.map fun k=>k.shrink).getD 0) else ((0,0):Int×Int)).1,
  shrink:=(if b.first=true then ((st.blocks[b.block]?.map fun k=>k.stretch).getD 0,(st.blocks[b.block]?.map fun k=>k.shrink).getD 0) else ((0,0):Int×Int)).2,
  cost:=costBetween st.settings a b st.blocks[a.block]?}
theorem mw (st:Vamatk.State):∀ ls:List Line,columnFrom st ls=(ls.zip ls.tail).map (fun p=>bY st p.1 p.2)++(ls.drop (ls.length - 1)).map pM
 | []=>rfl
 | [a]=>rfl
 | a::b::r=>by
  have ih:=mw st (b::r)
  show bY st a b::columnFrom st (b::r)=_
  rw [ih]
  rfl
theorem zc {st:Vamatk.State}(so:Sound st){a b:Line}(ha:mG st a)(hb:mG st b):(0<=(bY st a b).width/\(bY st a b).width<=2000000)/\(0<=(bY st a b).space/\(bY st a b).space<=4000000)/\0<=(bY st a b).shrink/\(bY st a b).shrink<=(bY st a b).space/\-1<=(bY st a b).cost:=by
 have gs:=gY so.settings
 have ea:st.blocks[a.block]?=some (st.blocks[a.block]'ha.blk):=List.getElem?_eq_getElem ha.blk
 have eb:st.blocks[b.block]?=some (st.blocks[b.block]'hb.blk):=List.getElem?_eq_getElem hb.blk
 have ga:=rX (so.blocks _ (List.getElem_mem ha.blk)).1
 have gb:=rX (so.blocks _ (List.getElem_mem hb.blk)).1
 have h1:=ha.h1
 have h2:=ha.h2
 have h3:=ha.d1
 have h4:=ha.d2
 have h5:=hb.h1
 have h6:=hb.h2
 unfold bY spaceBetween costBetween atLeast0
 simp only
 rw [ea,eb]
 simp only [Option.map_some,Option.getD_some]
 refine ⟨?_,?_,?_,?_,?_⟩
 ·split<;>omega
 ·split<;>omega
 ·split
  ·simp only;omega
  ·simp only;omega
 ·split
  ·simp only;omega
  ·simp only;omega
 ·split
  ·omega
  ·split<;>omega
theorem ux {st:Vamatk.State}(so:Sound st):Bound (columnFrom st (allLines st)):=by
 have ok:=gP so
 have key:∀ a∈columnFrom st (allLines st),(0<=a.width/\a.width<=2000000)/\(0<=a.space/\a.space<=4000000)/\0<=a.shrink/\a.shrink<=a.space/\-1<=a.cost:=by
  intro a ha
  rw [mw] at ha
  rcases List.mem_append.mp ha with h | h
  ·obtain ⟨p,hp,rfl⟩:=List.mem_map.mp h
   have hp':=List.of_mem_zip hp
   exact zc so (ok _ hp'.1) (ok _ (List.mem_of_mem_tail hp'.2))
  ·obtain ⟨l,hl,rfl⟩:=List.mem_map.mp h
   have o:=ok l (List.mem_of_mem_drop hl)
   have h1:=o.h1
   have h2:=o.h2
   have h3:=o.d1
   have h4:=o.d2
   unfold pM atLeast0
   simp only
   refine ⟨?_,by omega,by omega,by omega,by omega⟩
   split<;>omega
 refine ⟨⟨fun a ha=>?_⟩,fun a ha=>?_,?_⟩
 ·have:=key a ha;omega
 ·have:=key a ha;omega
 ·have:=bx so
  rw [bI]
  omega
theorem w8 {row:Vamati.Row}(h:∀ a∈row,Vamati.good a=true)(hl:row.length<=600):Bound row:=by
 refine ⟨⟨fun a ha=>?_⟩,fun a ha=>?_,by omega⟩
 ·have:=jG (h a ha);omega
 ·have:=jG (h a ha);omega
theorem xg {w:Int}(h:0<=w/\w<=1000000):Bound [bf w]:=by
 refine ⟨⟨fun a ha=>?_⟩,fun a ha=>?_,?_⟩
 ·have e:=List.mem_singleton.mp ha
  subst e
  unfold bf
  simp only
  omega
 ·have e:=List.mem_singleton.mp ha
  subst e
  unfold bf
  simp only
  omega
 ·show 1<=1000
  omega
end Bp
namespace Bp
open Vamati Vamatk
theorem vw {α β γ:Type}(h:α->List β)(g:α->List γ):∀ l:List α,(∀ x∈l,(h x).length=(g x).length)->(l.flatMap h).zip (l.flatMap g)=l.flatMap fun x=>(h x).zip (g x)
 | [],_=>rfl
 | x::l,e=>by
  rw [List.flatMap_cons,List.flatMap_cons,List.flatMap_cons,List.zip_append (e x List.mem_cons_self),vw h g l fun y hy=>e y (List.mem_cons_of_mem _ hy)]
theorem bL {α β:Type}{f g:α->List β}:∀ {l:List α},(∀ x∈l,f x=g x)->l.flatMap f=l.flatMap g
 | [],_=>rfl
 | x::l,h=>by
  rw [List.flatMap_cons,List.flatMap_cons,h x List.mem_cons_self,bL fun y hy=>h y (List.mem_cons_of_mem _ hy)]
theorem kX {α β γ δ:Type}(f:α->γ->List δ)(e:β->γ):∀ (a:List α) (b:List β),((a.zip (b.map e)).flatMap fun z=>f z.1 z.2)=(a.zip b).flatMap fun z=>f z.1 (e z.2)
 | [],_=>rfl
 | _::_,[]=>rfl
 | x::a,y::b=>by
  rw [List.map_cons,List.zip_cons_cons,List.zip_cons_cons,List.flatMap_cons,List.flatMap_cons,kX f e a b]
theorem lI {α β γ:Type}(f:α->List γ):∀ (a:List α) (b:List β),a.length=b.length->((a.zip b).flatMap fun z=>f z.1)=a.flatMap f
 | [],_,_=>rfl
 | x::a,[],h=>by simp at h
 | x::a,y::b,h=>by
  rw [List.zip_cons_cons,List.flatMap_cons,List.flatMap_cons,lI f a b (by simpa using h)]
theorem abc {α:Type}(l:List α)(m n:Nat):(l.zipIdx.take n).drop m=((l.take n).drop m).zipIdx m:=by
 apply List.ext_getElem
 ·simp
 ·intro i h1 h2
  simp
def eG {α:Type}(l:List α)(p:Nat×Nat):List α:=(l.take (p.2+1)).drop p.1
def eE (st:Vamatk.State):Vamati.Row:=columnFrom st (allLines st)
def oO (st:Vamatk.State):List (Line×Item):=(allLines st).zip (eE st)
def dG (st:Vamatk.State)(p:Nat×Nat):List Int:=baselinesFrom 0 (eG (oO st) p)
def eQ (st:Vamatk.State)(x:(Nat×Nat)×Nat):List Spot:=((eG (allLines st) x.1).zip (dG st x.1)).flatMap fun z=>lineItems st z.1 x.2 z.2
theorem sR (st:Vamatk.State):(oO st).length=(allLines st).length:=by
 unfold oO eE
 rw [List.length_zip,bI]
 omega
theorem kD (st:Vamatk.State)(p:Nat×Nat):(eG (allLines st) p).length=(dG st p).length:=by
 unfold dG eG
 rw [dj,List.length_drop,List.length_take,List.length_drop,List.length_take,sR]
theorem je (st:Vamatk.State):allSpots st=(pagesOf st).zipIdx.flatMap (eQ st):=by
 have hb:=best_breaking (eE st) (pageMeasure st.settings)
 have e1:allLines st=(pagesOf st).zipIdx.flatMap fun x=>eG (allLines st) x.1:=by
  rw [i5 (fun p=>eG (allLines st) p)]
  have:=jy (eE st) (allLines st) (by unfold eE;rw [bI]) _ 0 hb
  rw [List.drop_zero] at this
  exact this.symm
 have e2:lineSpots st=(pagesOf st).zipIdx.flatMap fun x=>(dG st x.1).map fun y=>(x.2,y):=rfl
 have e3:(allLines st).zip (lineSpots st)=(pagesOf st).zipIdx.flatMap fun x=>(eG (allLines st) x.1).zip ((dG st x.1).map fun y=>(x.2,y)):=by
  rw [e2]
  refine Eq.trans (congrArg (fun q:List Line=>q.zip ((pagesOf st).zipIdx.flatMap fun x=>(dG st x.1).map fun y=>(x.2,y))) e1) (vw _ _ _ fun x _=>?_)
  rw [List.length_map]
  exact kD st x.1
 unfold allSpots
 rw [e3,List.flatMap_assoc]
 apply bL
 intro x _
 unfold eQ
 exact kX (fun l (p:Nat×Int)=>lineItems st l p.1 p.2) (fun y=>(x.2,y)) _ _
def vF (p:Spot):Nat×Nat×List Int:=(p.block,p.item,[p.width,p.height,p.depth])
def fY (i:Nat)(b:Block):List (Nat×Nat×List Int):=(aB b).zipIdx.map fun z=>(i,z.2,z.1)
def m9 (st:Vamatk.State)(l:Line):List (Nat×Nat×List Int):=match st.blocks[l.block]? with
 | some b=>eG (fY l.block b) (l.from_,l.to_)
 | none=>[]
def cy (p:Spot):List Int:=[p.page,p.x,p.y]
def xsD (st:Vamatk.State)(l:Line):List Int:=
 let body:Option Body:=(st.blocks[l.block]?).map fun b=>b.body
 match body with
 | some (.display way w _ _)=>[displayX st.settings way w]
 | some (.paragraph f row)=>(List.range (slice row l.from_ l.to_).length).map fun k=>(if l.first=true then f else st.settings.indent)+ahead (fun a=>a.width+a.space) (slice row l.from_ l.to_) k
 | none=>[]
theorem acA (s:Settings)(f:Int)(last:Bool)(i:Nat)(r:Vamati.Row)(b:Bool)(hb:b=decide (i=0)):xsOf (measureOf s f) false last i r=(List.range r.length).map fun k=>(if b=true then f else s.indent)+ahead (fun a=>a.width+a.space) r k:=by
 unfold xsOf
 apply List.map_congr_left
 intro k _
 rw [lM]
 unfold indentOf measureOf ahead
 subst hb
 by_cases h:i=0
 ·simp [h]
 ·simp [h]
theorem qJ {st:Vamatk.State}{l:Line}(ok:mG st l)(pg:Nat)(y:Int):(lineItems st l pg y).map vF=m9 st l:=by
 have eb:st.blocks[l.block]?=some (st.blocks[l.block]'ok.blk):=List.getElem?_eq_getElem ok.blk
 have ht:=ok.to
 have hf:=ok.ft
 rw [eb] at ht
 unfold lineItems m9
 rw [eb]
 simp only [Option.map_some]
 simp only at ht
 generalize hB:st.blocks[l.block]'ok.blk=b at *
 unfold aB at ht
 unfold fY aB
 cases hbody:b.body with
 | display way w h d=>
  rw [hbody] at ht
  simp only at ht
  have h0:l.to_=0:=by
   have:l.to_ < 1:=ht
   omega
  have h1:l.from_=0:=by omega
  rw [h0,h1]
  rfl
 | paragraph f row=>
  rw [hbody] at ht
  simp only [List.length_map] at ht
  simp only
  have hl:=fJ row l.from_ l.to_ ht
  have hx:(xsOf (measureOf st.settings f) false l.last l.from_ (slice row l.from_ l.to_)).length=(slice row l.from_ l.to_).length:=by
   unfold xsOf
   simp
  unfold eG
  rw [<-List.map_take,<-List.map_drop,abc,List.map_map]
  apply List.ext_getElem
  ·simp only [List.length_map,List.length_zipIdx,List.length_zip,hx,hl,List.length_drop,List.length_take]
   omega
  ·intro i h1 h2
   simp only [List.length_map,List.length_zipIdx,List.length_zip,hx] at h1
   have hi:i < (slice row l.from_ l.to_).length:=by omega
   simp only [List.getElem_map,List.getElem_zipIdx,List.getElem_zip,Function.comp]
   unfold vF
   simp only
   have e:((row.map size3).take (l.to_+1)).drop l.from_=(slice row l.from_ l.to_).map size3:=by
    unfold slice
    rw [<-List.map_take,<-List.map_drop]
   simp only [e,List.getElem_map]
   simp [size3]
theorem jZ {st:Vamatk.State}{l:Line}(ok:mG st l)(pg:Nat)(y:Int):(lineItems st l pg y).map cy=(xsD st l).map fun x=>[(pg:Int),x,y]:=by
 unfold lineItems xsD
 cases (st.blocks[l.block]?).map fun b=>b.body with
 | none=>rfl
 | some body=>
  cases body with
  | display way w h d=>rfl
  | paragraph f row=>
   simp only
   rw [<-acA st.settings f l.last l.from_ (slice row l.from_ l.to_) l.first ok.fst]
   have hx:(xsOf (measureOf st.settings f) false l.last l.from_ (slice row l.from_ l.to_)).length=(slice row l.from_ l.to_).length:=by
    unfold xsOf
    simp
   rw [List.map_map]
   apply List.ext_getElem
   ·simp only [List.length_map,List.length_zipIdx,List.length_zip,hx]
    omega
   ·intro i h1 h2
    simp only [List.getElem_map,List.getElem_zipIdx,List.getElem_zip,Function.comp]
    rfl
theorem on {st:Vamatk.State}{l:Line}(pg:Nat)(y:Int):∀ p∈lineItems st l pg y,p.block=l.block:=by
 intro p hp
 unfold lineItems at hp
 cases e:(st.blocks[l.block]?).map fun b=>b.body with
 | none=>
  rw [e] at hp
  cases hp
 | some body=>
  rw [e] at hp
  cases body with
  | display way w h d=>
   have:=List.mem_singleton.mp hp
   subst this
   rfl
  | paragraph f row=>
   obtain ⟨x,_,rfl⟩:=List.mem_map.mp hp
   rfl
theorem xA {st:Vamatk.State}(so:Sound st){i:Nat}{b:Block}(hb:st.blocks[i]?=some b):(blockLines st.settings i b).flatMap (m9 st)=fY i b:=by
 rcases pj so (List.mem_of_getElem? hb) with ⟨f,row,e,hne,hlen⟩ | ⟨y,w,h,d,e,hw,hh,hd⟩
 ·have hk:∀ (b0 s0 u0 c0:Int),b=para b0 s0 u0 c0 f row->(blockLines st.settings i b).flatMap (m9 st)=fY i b:=by
   intro b0 s0 u0 c0 e
   have e1:blockLines st.settings i b=(linesOf 0 (bestOf row (measureOf st.settings f)).ends).map fun p=>{block:=i,from_:=p.1,to_:=p.2,height:=heightOf (slice row p.1 p.2),depth:=depthOf (slice row p.1 p.2),over:=overOf (roomOf (measureOf st.settings f) p.1) (slice row p.1 p.2),first:=decide (p.1=0),last:=decide (p.2+1=row.length)}:=by
    rw [e]
    rfl
   rw [e1,List.flatMap_map]
   have e2:=jy row (fY i b) (by unfold fY aB;rw [e];simp [para]) _ 0 (best_breaking row (measureOf st.settings f))
   rw [List.drop_zero] at e2
   refine Eq.trans (bL fun p _=>?_) e2
   unfold m9
   simp only
   rw [hb]
   rfl
  exact hk _ _ _ _ e
 ·have e1:blockLines st.settings i b=[{block:=i,from_:=0,to_:=0,height:=h,depth:=d,over:=atLeast0 (w - st.settings.measure),first:=true,last:=true}]:=by
   rw [e]
   rfl
  rw [e1,List.flatMap_cons,List.flatMap_nil,List.append_nil]
  unfold m9
  simp only
  rw [hb]
  have:fY i b=[(i,0,[w,h,d])]:=by
   rw [e]
   rfl
  simp only [this]
  rfl
theorem vV {st:Vamatk.State}(so:Sound st):(allSpots st).map vF=st.blocks.zipIdx.flatMap fun x=>fY x.2 x.1:=by
 have ok:=gP so
 have e1:(allSpots st).map vF=((allLines st).zip (lineSpots st)).flatMap fun z=>m9 st z.1:=by
  unfold allSpots
  rw [List.map_flatMap]
  apply bL
  intro z hz
  exact qJ (ok z.1 (List.of_mem_zip hz).1) z.2.1 z.2.2
 rw [e1,lI (m9 st) _ _ (mi st).symm]
 unfold allLines
 rw [List.flatMap_assoc]
 apply bL
 intro x hx
 exact xA so (fZ hx)
def spB (st:Vamatk.State)(i:Nat):List Spot:=(allSpots st).filter fun p=>decide (p.block=i)
theorem group {α:Type}(blk:α->Nat):∀ (ns:List Nat) (k:Nat) (K:List α),K.map blk=(ns.zipIdx k).flatMap (fun x=>List.replicate x.1 x.2)->K=(List.range' k ns.length).flatMap fun i=>K.filter fun p=>decide (blk p=i)
 | [],k,K,h=>by
  have e:K=[]:=by
   cases K with
   | nil=>rfl
   | cons a K=>cases h
  rw [e]
  rfl
 | n::ns,k,K,h=>by
  rw [List.zipIdx_cons,List.flatMap_cons] at h
  obtain ⟨K1,K2,rfl,h1,h2⟩:=List.map_eq_append_iff.mp h
  have ih:=group blk ns (k+1) K2 h2
  have m1:∀ p∈K1,blk p=k:=by
   intro p hp
   have:blk p∈List.replicate n k:=by
    rw [<-h1]
    exact List.mem_map_of_mem hp
   exact (List.mem_replicate.mp this).2
  have m2:∀ p∈K2,k+1<=blk p:=by
   intro p hp
   have:blk p∈(ns.zipIdx (k+1)).flatMap (fun x=>List.replicate x.1 x.2):=by
    rw [<-h2]
    exact List.mem_map_of_mem hp
   obtain ⟨x,hx,hr⟩:=List.mem_flatMap.mp this
   have:=(List.mem_replicate.mp hr).2
   have:=List.le_snd_of_mem_zipIdx hx
   omega
  rw [List.length_cons,List.range'_succ,List.flatMap_cons]
  have f1:(K1++K2).filter (fun p=>decide (blk p=k))=K1:=by
   rw [List.filter_append,List.filter_eq_self.mpr fun p hp=>decide_eq_true (m1 p hp),List.filter_eq_nil_iff.mpr fun p hp=>by have:=m2 p hp;simp;omega,List.append_nil]
  rw [f1]
  congr 1
  refine ih.trans (bL fun i hi=>?_)
  rw [List.filter_append]
  have:K1.filter (fun p=>decide (blk p=i))=[]:=List.filter_eq_nil_iff.mpr fun p hp=>by
   have:=m1 p hp
   have:=(List.mem_range'_1.mp hi).1
   simp
   omega
  rw [this,List.nil_append]
theorem u7 {st:Vamatk.State}(so:Sound st):allSpots st=(List.range st.blocks.length).flatMap (spB st):=by
 have h:=congrArg (List.map Prod.fst) (vV so)
 rw [List.map_map,List.map_flatMap] at h
 have g:=group (fun p:Spot=>p.block) (st.blocks.map fun b=>(aB b).length) 0 (allSpots st) (by
  refine Eq.trans h ?_
  rw [List.zipIdx_map,List.flatMap_map]
  apply bL
  intro x _
  unfold fY
  rw [List.map_map]
  apply List.ext_getElem
  ·simp
  ·intro i h1 h2
   simp)
 rw [List.length_map,<-List.range_eq_range'] at g
 exact g
theorem yw {α β:Type}(g:α->List β):∀ (l:List α) (k i:Nat),((l.zipIdx k).flatMap fun x=>if x.2=k+i then g x.1 else [])=(l[i]?.map g).getD []
 | [],k,i=>rfl
 | a::l,k,0=>by
  rw [List.zipIdx_cons,List.flatMap_cons,if_pos (by simp)]
  have:(List.zipIdx l (k+1)).flatMap (fun x=>if x.2=k+0 then g x.1 else [])=[]:=by
   rw [List.flatMap_eq_nil_iff]
   intro x hx
   have:=List.le_snd_of_mem_zipIdx hx
   rw [if_neg (by omega)]
  rw [this,List.append_nil]
  rfl
 | a::l,k,i+1=>by
  rw [List.zipIdx_cons,List.flatMap_cons,if_neg (by simp),List.nil_append]
  have ih:=yw g l (k+1) i
  rw [show k+1+i=k+(i+1) by omega] at ih
  rw [ih]
  rfl
theorem vz {st:Vamatk.State}(so:Sound st){i:Nat}{b:Block}(hb:st.blocks[i]?=some b):(spB st i).map vF=fY i b:=by
 have e1:(spB st i).map vF=((allSpots st).map vF).filter fun z=>decide (z.1=i):=by
  unfold spB
  rw [List.filter_map]
  rfl
 rw [e1,vV so,List.filter_flatMap]
 have e2:(st.blocks.zipIdx.flatMap fun x=>(fY x.2 x.1).filter fun z=>decide (z.1=i))=st.blocks.zipIdx.flatMap fun x=>if x.2=0+i then fY i x.1 else []:=by
  apply bL
  intro x _
  by_cases h:x.2=i
  ·rw [if_pos (by omega),h]
   exact List.filter_eq_self.mpr fun z hz=>by
    obtain ⟨q,_,rfl⟩:=List.mem_map.mp hz
    simp
  ·rw [if_neg (by omega)]
   exact List.filter_eq_nil_iff.mpr fun z hz=>by
    obtain ⟨q,_,rfl⟩:=List.mem_map.mp hz
    simpa using h
 rw [e2,yw (fY i) st.blocks 0 i,hb]
 rfl
theorem io {st:Vamatk.State}(so:Sound st){i:Nat}{b:Block}(hb:st.blocks[i]?=some b):(spB st i).length=(aB b).length:=by
 have:=congrArg List.length (vz so hb)
 unfold fY at this
 simpa using this
theorem xV {st:Vamatk.State}(so:Sound st){i:Nat}{b:Block}(hb:st.blocks[i]?=some b){k:Nat}{p:Spot}(hp:(spB st i)[k]?=some p):p.block=i/\p.item=k/\(aB b)[k]?=some [p.width,p.height,p.depth]:=by
 have h:=congrArg (fun l=>l[k]?) (vz so hb)
 simp only [List.getElem?_map,hp,Option.map_some] at h
 unfold fY at h
 rw [List.getElem?_map,List.getElem?_zipIdx] at h
 cases e:(aB b)[k]? with
 | none=>rw [e] at h;cases h
 | some z=>
  rw [e] at h
  simp only [Option.map_some] at h
  have h:=Option.some.inj h
  unfold vF at h
  have h1:=congrArg Prod.fst h
  have h2:=congrArg (fun x=>x.2.1) h
  have h3:=congrArg (fun x=>x.2.2) h
  simp only at h1 h2 h3
  exact ⟨h1,by omega,by rw [h3]⟩
theorem y4 {S:List Spot}(h:∀ (k:Nat) (p:Spot),S[k]?=some p->p.item=k)(j:Int):S.find? (fun p=>decide (nat p.item=j))=if 0<=j then S[j.toNat]? else none:=by
 have key:∀ (S:List Spot) (o:Nat),(∀ (k:Nat) (p:Spot),S[k]?=some p->p.item=o+k)->S.find? (fun p=>decide (nat p.item=j))=if (o:Int)<=j then S[j.toNat - o]? else none:=by
  intro S
  induction S with
  | nil=>
   intro o _
   split<;>rfl
  | cons a S ih=>
   intro o h
   have ha:=h 0 a rfl
   have ih:=ih (o+1) fun k p hp=>by
    have:=h (k+1) p hp
    omega
   rw [List.find?_cons]
   unfold nat at *
   by_cases e:(a.item:Int)=j
   ·rw [decide_eq_true e]
    simp only
    rw [if_pos (by omega),show j.toNat - o=0 by omega]
    rfl
   ·rw [decide_eq_false e]
    simp only
    rw [ih]
    by_cases q:((o+1:Nat):Int)<=j
    ·rw [if_pos q,if_pos (by omega),show j.toNat - o=(j.toNat - (o+1))+1 by omega]
     rfl
    ·rw [if_neg q,if_neg (by omega)]
 have:=key S 0 fun k p hp=>by
  have:=h k p hp
  omega
 simpa using this
theorem wR {st:Vamatk.State}(so:Sound st){i:Nat}{b:Block}(hb:st.blocks[i]?=some b)(j:Int):placeAnswer st i j=if 0<=j/\j < (spB st i).length then 0::cy ((spB st i).getD j.toNat ⟨0,0,0,0,0,0,0,0⟩) else [-6]:=by
 have hi:=(List.getElem?_eq_some_iff.mp hb).1
 unfold placeAnswer
 have h1:Vamatk.isPlace st.blocks.length (i:Int)=true:=by
  unfold Vamatk.isPlace
  simp
  omega
 rw [h1,if_neg (by simp)]
 have h2:((allSpots st).find? fun p=>decide (nat p.block=(i:Int))&&decide (nat p.item=j))=(spB st i).find? fun p=>decide (nat p.item=j):=by
  unfold spB
  rw [List.find?_filter]
  congr 1
  funext p
  unfold nat
  rw [Bool.eq_iff_iff]
  simp only [Bool.and_eq_true,decide_eq_true_iff]
  omega
 rw [h2,y4 (fun k p hp=>(xV so hb hp).2.1)]
 by_cases q:0<=j
 ·rw [if_pos q]
  by_cases q2:j < (spB st i).length
  ·rw [if_pos ⟨q,q2⟩,List.getD_eq_getElem?_getD,List.getElem?_eq_getElem (show j.toNat < (spB st i).length by omega)]
   rfl
  ·rw [if_neg fun z=>q2 z.2,List.getElem?_eq_none (by omega)]
 ·rw [if_neg q,if_neg fun z=>q z.1]
theorem vO {st:Vamatk.State}(i:Nat):(((allSpots st).filter fun p=>decide (nat p.block=(i:Int))).flatMap spotNumbers)=(spB st i).flatMap cy:=by
 have:((allSpots st).filter fun p=>decide (nat p.block=(i:Int)))=spB st i:=by
  unfold spB
  congr 1
  funext p
  unfold nat
  rw [Bool.eq_iff_iff]
  simp
  omega
 rw [this]
 rfl
def eF (t z:List Int)(x y:Int):Bool:=
 if ¬ (t.getD 1 0<=x/\x < t.getD 1 0+z.getD 0 0) then false else decide (t.getD 2 0 - z.getD 2 0<=y)&&decide (y < t.getD 2 0+z.getD 1 0)
def d8 (st:Vamatk.State)(page x y:Int)(i:Nat)(b:Block):List Int:=
 (aB b).zipIdx.flatMap fun z=>if (((spB st i).map cy).getD z.2 []).getD 0 0=page/\eF (((spB st i).map cy).getD z.2 []) z.1 x y=true then [(i:Int),(z.2:Int)] else []
theorem jh {α β:Type}(p:α->Bool)(f:α->List β):∀ l:List α,(l.filter p).flatMap f=l.flatMap fun a=>if p a=true then f a else []
 | []=>rfl
 | a::l=>by
  rw [List.filter_cons,List.flatMap_cons]
  by_cases h:p a=true
  ·rw [if_pos h,if_pos h,List.flatMap_cons,jh p f l]
  ·rw [if_neg h,if_neg h,jh p f l]
   rfl
theorem aco {st:Vamatk.State}(so:Sound st)(page x y:Int):((allSpots st).filter fun p=>decide (nat p.page=page)&&p.has x y).flatMap (fun p=>[nat p.block,nat p.item])=st.blocks.zipIdx.flatMap fun z=>d8 st page x y z.2 z.1:=by
 have e0:∀ (g:Block->Nat->List Int),(st.blocks.zipIdx.flatMap fun z=>g z.1 z.2)=(List.range st.blocks.length).flatMap fun i=>g (st.blocks.getD i ⟨0,0,0,0,.display 0 0 0 0⟩) i:=by
  intro g
  rw [mo st.blocks ⟨0,0,0,0,.display 0 0 0 0⟩,List.flatMap_map]
 rw [e0 fun b i=>d8 st page x y i b,jh]
 have e1:=congrArg (fun l=>List.flatMap (fun a:Spot=>if (decide (nat a.page=page)&&a.has x y)=true then [nat a.block,nat a.item] else []) l) (u7 so)
 refine Eq.trans e1 ?_
 rw [List.flatMap_assoc]
 apply bL
 intro i hi
 have hi:=List.mem_range.mp hi
 have hb:st.blocks[i]?=some (st.blocks.getD i ⟨0,0,0,0,.display 0 0 0 0⟩):=by
  rw [List.getD_eq_getElem?_getD,List.getElem?_eq_getElem hi]
  rfl
 generalize st.blocks.getD i ⟨0,0,0,0,.display 0 0 0 0⟩=b at hb
 unfold d8
 have hl:=io so hb
 have ez:=mo (aB b) ([]:List Int)
 rw [ez,List.flatMap_map]
 have es:spB st i=(List.range (aB b).length).map fun k=>(spB st i).getD k ⟨0,0,0,0,0,0,0,0⟩:=by
  apply List.ext_getElem
  ·simp [hl]
  ·intro k h1 h2
   simp [h1]
 refine Eq.trans (congrArg (fun l=>List.flatMap (fun a:Spot=>if (decide (nat a.page=page)&&a.has x y)=true then [nat a.block,nat a.item] else []) l) es) ?_
 rw [List.flatMap_map]
 apply bL
 intro k hk
 have hk:=List.mem_range.mp hk
 have hg:(spB st i)[k]?=some ((spB st i).getD k ⟨0,0,0,0,0,0,0,0⟩):=by
  rw [List.getD_eq_getElem?_getD,List.getElem?_eq_getElem (by omega)]
  rfl
 generalize (spB st i).getD k ⟨0,0,0,0,0,0,0,0⟩=p at hg
 obtain ⟨q1,q2,q3⟩:=xV so hb hg
 have ht:((spB st i).map cy).getD k []=cy p:=by
  rw [List.getD_eq_getElem?_getD,List.getElem?_map,hg]
  rfl
 have hz:(aB b).getD k []=[p.width,p.height,p.depth]:=by
  rw [List.getD_eq_getElem?_getD,q3]
  rfl
 simp only [ht,hz]
 unfold eF cy Spot.has nat
 rw [q1,q2]
 simp only [List.getD_cons_zero,List.getD_cons_succ]
 by_cases c1:(p.page:Int)=page
 ·by_cases c2:p.x<=x/\x < p.x+p.width
  ·rw [if_neg (not_not_intro c2)]
   simp [c1,c2.1,c2.2]
  ·rw [if_pos c2]
   have:(decide (p.x<=x)&&(decide (x < p.x+p.width)&&(decide (p.y - p.depth<=y)&&decide (y < p.y+p.height))))=false:=by
    by_cases c3:p.x<=x
    ·have c4:¬ x < p.x+p.width:=fun z=>c2 ⟨c3,z⟩
     simp [c4]
    ·simp [c3]
   rw [this]
   simp
 ·simp [c1]
end Bp
namespace L2
open PySem PySem.Spec PyProof.Rows
abbrev Key:=Sum Int Str
def adn:Key->Value->Bool
 | .inl k,v=>Value.isInt k v
 | .inr x,v=>Value.isStrOf x v
def af5 (w:World):Key->Int
 | .inl k=>hashInt k
 | .inr x=>hashStr w x
theorem bV:∀ {k:Key} {v:Value},adn k v=true->(∃ i t,k=Sum.inl i/\v=Value.int i t)\/(∃ x t,k=Sum.inr x/\v=Value.str x t)
 | .inl i,v,h=>by
  obtain ⟨t,e⟩:=Value.isInt_shape (k:=i) (v:=v) h
  exact .inl ⟨i,t,rfl,e⟩
 | .inr x,v,h=>by
  obtain ⟨t,e⟩:=Value.isStrOf_shape (x:=x) (v:=v) h
  exact .inr ⟨x,t,rfl,e⟩
theorem aeM (a b:Int):decide ((Sum.inl a:Key)=Sum.inl b)=(a == b):=by
 by_cases e:a=b
 ·subst e;simp
 ·have h:¬ (Sum.inl a:Key)=Sum.inl b:=fun q=>e (Sum.inl.inj q)
  rw [decide_eq_false h]
  exact (beq_eq_false_iff_ne.mpr e).symm
theorem aep (a b:Str):decide ((Sum.inr a:Key)=Sum.inr b)=decide (a=b):=by
 by_cases e:a=b
 ·subst e;simp
 ·have h:¬ (Sum.inr a:Key)=Sum.inr b:=fun q=>e (Sum.inr.inj q)
  rw [decide_eq_false h,decide_eq_false e]
theorem aeg (a:Int)(b:Str):decide ((Sum.inl a:Key)=Sum.inr b)=false:=decide_eq_false (fun q=>nomatch q)
theorem aeS (a:Str)(b:Int):decide ((Sum.inr a:Key)=Sum.inl b)=false:=decide_eq_false (fun q=>nomatch q)
def tI (prog:Program)(w:World):PySem.KeyKind prog w Key where
 is:=adn
 hash:=af5 w
 inj:=fun v a b ha hb=>by
  rcases bV ha with ⟨i,t,rfl,rfl⟩ | ⟨x,t,rfl,rfl⟩
  ·rcases bV hb with ⟨j,u,rfl,e⟩ | ⟨y,u,rfl,e⟩
   ·injection e with e1 _;rw [e1]
   ·exact nomatch e
  ·rcases bV hb with ⟨j,u,rfl,e⟩ | ⟨y,u,rfl,e⟩
   ·exact nomatch e
   ·injection e with e1 _;rw [e1]
 byValue:=fun k v h=>by
  rcases bV h with ⟨i,t,rfl,rfl⟩ | ⟨x,t,rfl,rfl⟩<;>rfl
 pyHash:=fun hv h=>by
  rcases bV hv with ⟨i,t,rfl,rfl⟩ | ⟨x,t,rfl,rfl⟩
  ·exact wpAny_pyHash_int h
  ·exact wpAny_pyHash_str h
 eqBool:=fun hu hv h=>by
  rcases bV hu with ⟨i,t,rfl,rfl⟩ | ⟨x,t,rfl,rfl⟩
  ·rcases bV hv with ⟨j,u,rfl,rfl⟩ | ⟨y,u,rfl,rfl⟩
   ·rw [aeM] at h;exact wpAny_eqBool_int h
   ·rw [aeg] at h;exact SeqAt.EqAt.int_str i t y u _ _ _ _ h
  ·rcases bV hv with ⟨j,u,rfl,rfl⟩ | ⟨y,u,rfl,rfl⟩
   ·rw [aeS] at h;exact SeqAt.EqAt.str_int x t j u _ _ _ _ h
   ·rw [aep] at h;exact wpAny_eqBool_str h
 «strs»:=fun k x t v h=>by
  rcases bV h with ⟨i,u,rfl,e⟩ | ⟨y,u,rfl,e⟩
  ·exact nomatch e
  ·injection e with e1 _
   subst e1
   cases v<;>rfl
end L2
namespace L2
open PySem PySem.Spec PyProof.Rows
inductive V where
 | non | bl (b:Bool) | int (i:Int) | str (x:Str) | byt (b:Array UInt8) | flt (b:UInt64) | ref (a:Addr) | ty (n:String)
 deriving DecidableEq
def bA:V->Value->Prop
 | .non,u=>u=Value.none
 | .bl b,u=>u=Value.bool b
 | .int i,u=>∃ t,u=Value.int i t
 | .str x,u=>∃ t,u=Value.str x t
 | .byt b,u=>∃ t,u=Value.bytes b t
 | .flt b,u=>∃ t,u=Value.float b t
 | .ref a,u=>u=Value.ref a
 | .ty n,u=>u=Value.type n
abbrev Vals:List V->List Value->Prop:=Paired bA
theorem Vals.length {xs:List V}{us:List Value}(r:Vals xs us):xs.length=us.length:=Paired.length r
theorem Vals.get:∀ {xs:List V} {us:List Value} {i:Nat} {x:V},Vals xs us->xs[i]?=some x->∃ u,us[i]?=some u/\bA x u
 | _,_,_,_,.nil,e=>by simp at e
 | _,_,0,_,.cons r _,e=>by simp at e;subst e;exact ⟨_,rfl,r⟩
 | _,_,i+1,x,.cons _ t,e=>by
  obtain ⟨u,h1,h2⟩:=Vals.get (i:=i) (x:=x) t (by simpa using e)
  exact ⟨u,by simpa using h1,h2⟩
theorem Vals.set {x:V}{u:Value}(r:bA x u):∀ {xs:List V} {us:List Value} (i:Nat),Vals xs us->Vals (xs.set i x) (us.set i u)
 | _,_,_,.nil=>.nil
 | _,_,0,.cons _ t=>.cons r t
 | _,_,i+1,.cons q t=>.cons q (Vals.set r i t)
theorem Vals.append:∀ {xs ys:List V} {us ws:List Value},Vals xs us->Vals ys ws->Vals (xs++ys) (us++ws)
 | _,_,_,_,.nil,s=>s
 | _,_,_,_,.cons r t,s=>.cons r (Vals.append t s)
theorem Vals.take:∀ {xs:List V} {us:List Value} (n:Nat),Vals xs us->Vals (xs.take n) (us.take n)
 | _,_,0,_=>.nil
 | _,_,_+1,.nil=>.nil
 | _,_,n+1,.cons r t=>.cons r (Vals.take n t)
theorem Vals.drop:∀ {xs:List V} {us:List Value} (n:Nat),Vals xs us->Vals (xs.drop n) (us.drop n)
 | _,_,0,r=>r
 | _,_,_+1,.nil=>.nil
 | _,_,n+1,.cons _ t=>Vals.drop n t
def rF:Option V->Option Value->Prop
 | some v,some u=>bA v u
 | none,none=>True
 | _,_=>False
def KV {κ:Type}:List (κ×V)->List (κ×Value)->Prop:=Paired fun (p:κ×V) (q:κ×Value)=>p.1=q.1/\bA p.2 q.2
def kV:Key->V
 | .inl i=>.int i
 | .inr x=>.str x
inductive HO where
 | lst (xs:List V)
 | tup (xs:List V)
 | dK (kvs:List (Key×V)) | dT (kvs:List (List Key×V))
 | set (S:Int->Bool) (n:Nat)
 | ins (C dx:Addr) (fs:List (Str×V))
 | own (x:Addr)
 | xd (fs:List (Str×V))
 | met (f x:Addr)
 | rng (lo hi:Int)
 | frz (o:Obj) (u:HO)
 | tbl (ps:Array Value)
 | ext (φ:Heap->Prop)
abbrev Hp:=Addr->Option HO
def upd (H:Hp)(a:Addr)(o:HO):Hp:=fun b=>if b=a then some o else H b
theorem aj {H:Hp}{a:Addr}{o:HO}:upd H a o a=some o:=by unfold upd;rw [if_pos rfl]
theorem am {H:Hp}{a b:Addr}{o:HO}(h:b≠a):upd H a o b=H b:=by unfold upd;rw [if_neg h]
theorem b9 {H:Hp}{a b:Addr}{o u:HO}(h:H a=some o)(h':H b=some u)(d:o≠u):a≠b:=by
 intro e;subst e;rw [h] at h';exact d (Option.some.inj h')
theorem aM {H:Hp}{a b:Addr}{o:HO}(h:H a=some o)(h':H b=none):a≠b:=by
 intro e;subst e;rw [h] at h';cases h'
section
variable (P:Program)(w:World)
def dH (H:Hp)(h:Heap)(a:Addr):HO->Prop
 | .lst xs=>xs.length<=sizeLine/\∃ (its:List Value) (n:Nat),Vals xs its/\h.get? a=some {cls:=.type "list",data:=.seq its.toArray n}
 | .tup xs=>xs.length<=sizeLine/\∃ its:List Value,Vals xs its/\IsTup h a its.toArray
 | .dK kvs=>kvs.length<=sizeLine/\(a == sysModules)=false/\∃ vs,KV kvs vs/\h.DictOf (tI P w) a vs
 | .dT kvs=>kvs.length<=sizeLine/\(a == sysModules)=false/\∃ xs:List (List Key×Addr×Value),
   Paired (fun (p:List Key×V) (q:List Key×Addr×Value)=>p.1=q.1/\H q.2.1=some (.tup (p.1.map kV))/\bA p.2 q.2.2) kvs xs/\
   ∃ o es ep,h.get? a=some o/\o.ExactDict/\o.data=.dict es ep/\es.toList=xs.map (entryOfKey (tupleKind (tI P w)))/\(xs.map (·.1)).Nodup
 | .set S n=>h.SetOf (intKind P w) a S n
 | .ins C dx fs=>H dx=some (.own a)/\fs.length<=1000/\dx≠a/\h.get? a=some (PySem.W.instObj C dx)/\
   ∃ mA,h.Ns1 dx mA/\(∀ f,rF (fs.lookup f) (mA f))/\PySem.Within mA (fs.map (·.1))
 | .own _=>∃ o,h.get? a=some o
 | .xd fs=>∃ mA,h.Ns1 a mA/\∀ f,rF (fs.lookup f) (mA f)
 | .rng lo hi=>∃ t u v,h.get? a=some {cls:=.type "range",data:=.fields #[.int lo t,.int hi u,.int 1 v]}
 | .frz o u=>h.get? a=some o/\dH H h a u
 | .tbl ps=>h.get? a=some {cls:=.none,data:=.fields ps}
 | .met f x=>h.get? a=some (PySem.W.methodObj (.ref f) (.ref x))
 | .ext φ=>φ h/\(∃ o,h.get? a=some o)/\∀ h1 h2:Heap,φ h1->(∀ o,h1.get? a=some o->h2.get? a=some o)->φ h2
def HOk (H:Hp)(h:Heap):Prop:=∀ a o,H a=some o->dH P w H h a o
end
section
variable {P:Program}{w:World}{H H':Hp}{h h':Heap}{a:Addr}{o:HO}
theorem dH.lt (x:dH P w H h a o):a < h.objs.size:=by
 cases o with
 | lst xs=>obtain ⟨_,_,_,_,e⟩:=x;exact Heap.lt_size e
 | tup xs=>obtain ⟨_,_,_,p⟩:=x;exact p.lt
 | dK kvs=>obtain ⟨_,_,_,_,o,_,_,e,_⟩:=x;exact Heap.lt_size e
 | dT kvs=>obtain ⟨_,_,_,_,o,_,_,e,_⟩:=x;exact Heap.lt_size e
 | set S n=>obtain ⟨o,_,_,_,e,_⟩:=x;exact Heap.lt_size e
 | ins C dx fs=>obtain ⟨_,_,_,e,_⟩:=x;exact Heap.lt_size e
 | own y=>obtain ⟨_,e⟩:=x;exact Heap.lt_size e
 | xd fs=>obtain ⟨_,⟨_,_,_,e,_⟩,_⟩:=x;exact Heap.lt_size e
 | rng lo hi=>obtain ⟨_,_,_,e⟩:=x;exact Heap.lt_size e
 | frz ob u=>obtain ⟨e,_⟩:=x;exact Heap.lt_size e
 | tbl ps=>exact Heap.lt_size (show h.get? a=some _ from x)
 | met f y=>exact Heap.lt_size (show h.get? a=some _ from x)
 | ext φ=>obtain ⟨_,⟨_,e⟩,_⟩:=x;exact Heap.lt_size e
theorem Paired.mapP {α β:Type}{F G:α->β->Prop}:∀ {l₁:List α} {l₂:List β},Paired F l₁ l₂->(∀ a b,F a b->G a b)->Paired G l₁ l₂
 | _,_,.nil,_=>.nil
 | _,_,.cons r t,f=>.cons (f _ _ r) (Paired.mapP t f)
theorem dH.stay (x:dH P w H h a o)(k:∀ b u,(b=a\/H b=some (.own a))->h.get? b=some u->h'.get? b=some u)
  (ho:∀ b,H b=some (.own a)->H' b=some (.own a))(ht:∀ b xs,H b=some (.tup xs)->H' b=some (.tup xs)):dH P w H' h' a o:=by
 induction o with
 | lst xs=>obtain ⟨z,its,n,r,e⟩:=x;exact ⟨z,its,n,r,k _ _ (.inl rfl) e⟩
 | tup xs=>obtain ⟨z,its,r,ob,e,c⟩:=x;exact ⟨z,its,r,ob,k _ _ (.inl rfl) e,c⟩
 | dK kvs=>obtain ⟨z,y,vs,r,ob,es,ep,e,c⟩:=x;exact ⟨z,y,vs,r,ob,es,ep,k _ _ (.inl rfl) e,c⟩
 | dT kvs=>
  obtain ⟨z,y,xs,r,ob,es,ep,e,c⟩:=x
  exact ⟨z,y,xs,Paired.mapP r fun p q z=>⟨z.1,ht _ _ z.2.1,z.2.2⟩,ob,es,ep,k _ _ (.inl rfl) e,c⟩
 | set S n=>obtain ⟨ob,es,ep,t,e,c⟩:=x;exact ⟨ob,es,ep,t,k _ _ (.inl rfl) e,c⟩
 | ins C dx fs=>
  obtain ⟨d,z,ne,e,mA,⟨od,es,ep,e2,c⟩,r⟩:=x
  exact ⟨ho _ d,z,ne,k _ _ (.inl rfl) e,mA,⟨od,es,ep,k _ _ (.inr d) e2,c⟩,r⟩
 | own y=>obtain ⟨ob,e⟩:=x;exact ⟨ob,k _ _ (.inl rfl) e⟩
 | xd fs=>obtain ⟨mA,⟨od,es,ep,e,c⟩,r⟩:=x;exact ⟨mA,⟨od,es,ep,k _ _ (.inl rfl) e,c⟩,r⟩
 | rng lo hi=>obtain ⟨t,u,v,e⟩:=x;exact ⟨t,u,v,k _ _ (.inl rfl) e⟩
 | frz ob u ih=>obtain ⟨e,q⟩:=x;exact ⟨k _ _ (.inl rfl) e,ih q⟩
 | tbl ps=>
  have e:h.get? a=some {cls:=.none,data:=.fields ps}:=x
  show h'.get? a=some {cls:=.none,data:=.fields ps}
  exact k a _ (.inl rfl) e
 | met f y=>
  have e:h.get? a=some (PySem.W.methodObj (.ref f) (.ref y)):=x
  show h'.get? a=some (PySem.W.methodObj (.ref f) (.ref y))
  exact k a _ (.inl rfl) e
 | ext φ=>obtain ⟨p,⟨o,e⟩,st⟩:=x;exact ⟨st _ _ p fun o q=>k _ _ (.inl rfl) q,⟨o,k _ _ (.inl rfl) e⟩,st⟩
theorem HOk.lt (x:HOk P w H h)(e:H a=some o):a < h.objs.size:=(x a o e).lt
theorem HOk.fresh (x:HOk P w H h)(e:h.objs.size<=a):H a=none:=by
 cases q:H a with
 | none=>rfl
 | some u=>exact absurd (Nat.lt_of_lt_of_le (x.lt q) e) (Nat.lt_irrefl _)
theorem HOk.kept (x:HOk P w H h)(k:∀ b u,h.get? b=some u->h'.get? b=some u):HOk P w H h':=fun a o e=>
 (x a o e).stay (fun b u _ q=>k b u q) (fun _ q=>q) fun _ _ q=>q
theorem HOk.laid (x:HOk P w H h)(k:∀ b u,h.get? b=some u->h'.get? b=some u)(hp:h.objs.size<=a)(new:dH P w (upd H a o) h' a o):HOk P w (upd H a o) h':=fun b u e=>by
 have hn:=x.fresh hp
 by_cases hb:b=a
 ·subst hb;rw [aj] at e;cases e;exact new
 ·rw [am hb] at e
  exact (x b u e).stay (fun c v _ q=>k c v q) (fun c q=>by rw [am (aM q hn)];exact q) fun c xs q=>by rw [am (aM q hn)];exact q
end
def Rd (H:Hp)(a:Addr)(u:HO):Prop:=H a=some u\/∃ o,H a=some (.frz o u)
theorem Rd.ok {P:Program}{w:World}{H:Hp}{h:Heap}{a:Addr}{u:HO}(r:Rd H a u)(x:HOk P w H h):dH P w H h a u:=by
 rcases r with r | ⟨o,r⟩
 ·exact x a u r
 ·obtain ⟨_,q⟩:=x a _ r
  exact q
def Mut:Option HO->Prop
 | some (.lst _)=>True
 | some (.dK _)=>True
 | some (.dT _)=>True
 | some (.set _ _)=>True
 | some (.ins _ _ _)=>True
 | some (.ext _)=>True
 | _=>False
section
variable {P:Program}{w:World}{H:Hp}{h h':Heap}{x e:Addr}{o':HO}
theorem HOk.write (ok:HOk P w H h)(mu:Mut (H x))(he:e=x\/H e=some (.own x))(k:∀ b u,b≠e->h.get? b=some u->h'.get? b=some u)(heo:∃ u,h'.get? e=some u)
  (new:dH P w (upd H x o') h' x o'):HOk P w (upd H x o') h':=fun b u q=>by
 have nown:∀ c y,H c=some (.own y)->c≠x:=fun c y r z=>by subst z;rw [r] at mu;exact mu
 have ntup:∀ c xs,H c=some (.tup xs)->c≠x:=fun c xs r z=>by subst z;rw [r] at mu;exact mu
 by_cases hb:b=x
 ·subst hb;rw [aj] at q;cases q;exact new
 ·rw [am hb] at q
  by_cases hbe:b=e
  ·have q':H b=some (.own x):=by
    rcases he with z | z
    ·exact absurd (hbe.trans z) hb
    ·rw [hbe];exact z
   rw [q] at q';cases q'
   obtain ⟨v,hv⟩:=heo
   exact ⟨v,by rw [hbe];exact hv⟩
  ·refine (ok b u q).stay (fun c v hc r=>k c v ?_ r) (fun c r=>by rw [am (nown c b r)];exact r) fun c xs r=>by rw [am (ntup c xs r)];exact r
   rcases hc with rfl | hc
   ·exact hbe
   ·rintro rfl
    rcases he with z | z
    ·exact nown c b hc z
    ·rw [hc] at z;cases z;exact hb rfl
end
structure Un (fs ex:List Addr)(H H':Hp)(h h':Heap):Prop where
 keep:∀ b o,h.get? b=some o->H b=none->b ∉ fs->b ∉ ex->h'.get? b=some o
 slot:∀ b o,h.get? b=some o->H b=none->b∈fs->b ∉ ex->∃ sl,h'.get? b=some {o with slots:=sl}
 free:∀ b o,h.get? b=some o->H b=none->b ∉ ex->H' b=none
 there:∀ b o,h.get? b=some o->b ∉ ex->∃ o',h'.get? b=some o'
 tups:∀ b xs,H b=some (.tup xs)->H' b=some (.tup xs)
 frzs:∀ b o u,H b=some (.frz o u)->H' b=some (.frz o u)
 tbls:∀ b ps,H b=some (.tbl ps)->∃ more,H' b=some (.tbl (ps++more))
section
variable {fs fs' ex ex':List Addr}{H H1 H2:Hp}{h h1 h2 h':Heap}{a x e:Addr}{o:HO}
theorem Un.any (u:Un fs ex H H1 h h1){b:Addr}{ob:Obj}(q:h.get? b=some ob)(n:H b=none)(hx:b ∉ ex):∃ sl,h1.get? b=some {ob with slots:=sl}:=by
 by_cases hb:b∈fs
 ·exact u.slot b ob q n hb hx
 ·exact ⟨ob.slots,u.keep b ob q n hb hx⟩
theorem Un.kept (k:∀ b u,h.get? b=some u->h'.get? b=some u):Un fs ex H H h h':=
 ⟨fun b ob q _ _ _=>k b ob q,fun b ob q _ _ _=>⟨ob.slots,k b ob q⟩,fun _ _ _ n _=>n,fun b ob q _=>⟨ob,k b ob q⟩,fun _ _ q=>q,fun _ _ _ q=>q,fun _ ps q=>⟨#[],by rw [q];simp⟩⟩
theorem Un.refl:Un fs ex H H h h:=Un.kept fun _ _ q=>q
theorem Un.laid (k:∀ b u,h.get? b=some u->h'.get? b=some u)(hp:h.objs.size<=a)(hn:H a=none):Un fs ex H (upd H a o) h h' where
 keep:=fun b u q _ _ _=>k b u q
 slot:=fun b u q _ _ _=>⟨u.slots,k b u q⟩
 free:=fun b u q n _=>by rw [am (Nat.ne_of_lt (Nat.lt_of_lt_of_le (Heap.lt_size q) hp))];exact n
 there:=fun b u q _=>⟨u,k b u q⟩
 tups:=fun b xs q=>by rw [am (aM q hn)];exact q
 frzs:=fun b u xs q=>by rw [am (aM q hn)];exact q
 tbls:=fun b ps q=>⟨#[],by rw [am (aM q hn),q];simp⟩
theorem Un.write (mu:Mut (H x))(he:e=x\/H e=some (.own x))(k:∀ b u,b≠e->h.get? b=some u->h'.get? b=some u)(heo:∃ u,h'.get? e=some u):Un fs ex H (upd H x o) h h':=by
 have hx:∀ b,H b=none->b≠x:=fun b n z=>by subst z;rw [n] at mu;exact mu
 have hb:∀ b,H b=none->b≠e:=fun b n z=>by
  subst z
  rcases he with r | r
  ·exact hx b n r
  ·rw [n] at r;cases r
 have hm:∀ b u,H b=some u->¬ Mut (some u)->b≠x:=fun b u q nm z=>by subst z;rw [q] at mu;exact nm mu
 refine ⟨fun b u q n _ _=>k b u (hb b n) q,fun b u q n _ _=>⟨u.slots,k b u (hb b n) q⟩,fun b u q n _=>by rw [am (hx b n)];exact n,fun b u q _=>?_,
  fun b xs q=>by rw [am (hm b _ q fun z=>z)];exact q,fun b u xs q=>by rw [am (hm b _ q fun z=>z)];exact q,fun b ps q=>⟨#[],by rw [am (hm b _ q fun z=>z),q];simp⟩⟩
 by_cases hbe:b=e
 ·subst hbe;exact heo
 ·exact ⟨u,k b u hbe q⟩
end
def trk (h:Heap)(H:Hp):List Addr:=(List.range h.objs.size).filter fun a=>(H a).isSome
def uP (h:Heap)(H:Hp):Heap:=PySem.W.hideAll h (trk h H)
theorem y9 (h:Heap)(H:Hp):(uP h H).objs.size=h.objs.size:=PySem.W.hideAll_size _ _
theorem abl {h:Heap}{H:Hp}{b:Addr}{o:Obj}(e:h.get? b=some o)(n:H b=none):(uP h H).get? b=some o:=
 PySem.W.hideAll_get _ e fun hm=>by
  have q:(H b).isSome=true:=(List.mem_filter.mp hm).2
  rw [n] at q;simp at q
theorem acX {h:Heap}{H:Hp}{b:Addr}{o:Obj}(e:(uP h H).get? b=some o):h.get? b=some o/\H b=none:=by
 have e':h.get? b=some o:=PySem.W.of_hideAll (trk h H) e
 refine ⟨e',?_⟩
 cases q:H b with
 | none=>rfl
 | some x=>
  have hm:b∈trk h H:=List.mem_filter.mpr ⟨List.mem_range.mpr (Heap.lt_size e'),by simp [q]⟩
  have z:(uP h H).get? b=none:=PySem.W.hideAll_none (trk h H) hm
  rw [z] at e;cases e
end L2
namespace L2
open PySem PySem.Spec PyProof.Rows
structure Mod (K:PySem.W.Frag)(mg:Str->Option Value)(base:Heap):Prop where
 kin:K.In base
 glob:base.Ns mainGlobals mg
 blt:∃ mb,base.Ns builtinsNs mb/\∀ x:Str,x≠"__name__"->mb x=bootBuiltins x
 nolimit:base.NoLimit
structure Cx where
 prog:Program
 w:World
 K:PySem.W.Frag
 mg:Str->Option Value
 base:Heap
 A:Around
 N:List Str
 s_0:Shared
 H_0:Hp
 env:Env
 outer:List Env
 stack:List Env
 ex:List Addr
 fn:Str->Bool
 calm:Bool
 pn:List (Addr×Obj)
 xe:Value->Shared->Prop
def frs (l:List Env):List Addr:=l.filterMap (·.frame)
abbrev Cx.fs (X:Cx):List Addr:=frs X.outer
def Vis (sc:Scope)(x:Str):Prop:=sc.names.lookup x=some .local\/sc.names.lookup x=some .cell\/sc.names.lookup x=some .free
def Loc (sc:Scope)(x:Str):Prop:=sc.names.lookup x=some .local\/sc.names.lookup x=some .cell
def Look (env:Env)(h:Heap)(m:Str->Option Value)(x:Str)(u:Value):Prop:=
 (env.kindOf x=some .local/\m x=some u)\/((env.kindOf x=some .cell\/env.kindOf x=some .free)/\∃ c,env.cells.lookup x=some c/\h.IsCell c (some u))
structure Cx.Ok (X:Cx):Prop where
 mod:Mod X.K X.mg X.base
 kind:X.env.scope.kind=.function
 glob:X.env.globals=mainGlobals
 blt:X.env.builtins=builtinsNs
 above:X.s_0.heap.objs.size<=X.env.locals
 inj:∀ x y c,X.env.cells.lookup x=some c->X.env.cells.lookup y=some c->x=y
 has:∀ x,(X.env.kindOf x=some .cell\/X.env.kindOf x=some .free)->∃ c,X.env.cells.lookup x=some c
 cab:∀ x c,X.fn x=true->X.env.cells.lookup x=some c->X.s_0.heap.objs.size<=c
 hd:X.calm=true->X.A.handled=none
 frames:X.A.frames=some X.stack
 stk:X.stack=X.outer\/(X.stack=X.env::X.outer/\X.env.frame=some X.env.locals)
 exf:∀ b∈X.ex,b≠X.env.locals/\∀ x c,X.env.cells.lookup x=some c->c≠b
 bs:∀ b o,X.base.get? b=some o->X.s_0.heap.get? b=some o/\X.H_0 b=none
 bsz:X.base.objs.size<=X.s_0.heap.objs.size
 noex:∀ b o,X.base.get? b=some o->b ∉ X.ex
 exfs:∀ b∈X.ex,b ∉ X.fs
 funs:X.s_0.heap.FunFrames X.base X.outer
 frf:∀ b∈X.fs,X.H_0 b=none
structure Inv (X:Cx)(pins:List (Addr×Obj))(σ:List (Option V))(H:Hp)(s:Shared):Prop where
 ok:X.Ok
 os:s.os=X.s_0.os
 bare:AllBare s.gens
 base:Un X.fs X.ex X.H_0 H X.s_0.heap s.heap
 loc:∃ m,s.heap.Ns X.env.locals m/\∀ (i:Nat) (x:Str) (v:V),X.N[i]?=some x->σ[i]?=some (some v)->Vis X.env.scope x->∃ u,bA v u/\Look X.env s.heap m x u
 cell:∀ x c,X.env.cells.lookup x=some c->∃ v,s.heap.IsCell c v
 free:H X.env.locals=none
 freeC:∀ x c,X.env.cells.lookup x=some c->H c=none
 pin:∀ p∈X.pn++pins,s.heap.get? p.1=some p.2/\H p.1=none/\p.1≠X.env.locals/\p.1 ∉ X.fs/\∀ v,p.2.data≠.cell v
 hok:HOk X.prog X.w H s.heap
 len:σ.length=X.N.length
section
variable {X:Cx}{pins:List (Addr×Obj)}{σ:List (Option V)}{H H':Hp}{s:Shared}{h':Heap}
theorem Cx.Ok.nofr (ok:X.Ok){b:Addr}{o:Obj}(e:X.base.get? b=some o):b ∉ X.fs:=fun hb=>by
 have:=(ok.funs.mem hb).1
 rw [e] at this;cases this
theorem Inv.bs (I:Inv X pins σ H s):∀ b o,X.base.get? b=some o->s.heap.get? b=some o/\H b=none:=fun b o e=>
 ⟨I.base.keep b o (I.ok.bs b o e).1 (I.ok.bs b o e).2 (I.ok.nofr e) (I.ok.noex b o e),I.base.free b o (I.ok.bs b o e).1 (I.ok.bs b o e).2 (I.ok.noex b o e)⟩
theorem Inv.bk (I:Inv X pins σ H s):∀ b o,X.base.get? b=some o->s.heap.get? b=some o:=fun b o e=>(I.bs b o e).1
theorem Inv.mod (I:Inv X pins σ H s):Mod X.K X.mg X.base:=I.ok.mod
theorem Inv.kIn (I:Inv X pins σ H s):X.K.In s.heap:=I.ok.mod.kin.keeps I.bk
theorem Inv.lt (I:Inv X pins σ H s):X.env.locals < s.heap.objs.size:=let ⟨_,hn,_⟩:=I.loc;hn.lt
theorem Inv.sz (I:Inv X pins σ H s):X.s_0.heap.objs.size<=s.heap.objs.size:=Nat.le_trans I.ok.above (Nat.le_of_lt I.lt)
theorem Inv.nofs (I:Inv X pins σ H s){a:Addr}(h:s.heap.objs.size<=a):a ∉ X.fs:=fun hb=>by
 obtain ⟨_,o,ho,_⟩:=I.ok.funs.mem hb
 exact absurd (Nat.lt_of_lt_of_le (Heap.lt_size ho) (Nat.le_trans I.sz h)) (Nat.lt_irrefl _)
theorem Inv.cne (I:Inv X pins σ H s):∀ x c,X.env.cells.lookup x=some c->c≠X.env.locals:=fun x c e z=>by
 obtain ⟨v,o,ho,hd⟩:=I.cell x c e
 obtain ⟨m,⟨o',es,ep,ho',hd',_⟩,_⟩:=I.loc
 rw [z,ho'] at ho;cases ho;rw [hd'] at hd;cases hd
theorem Inv.funs (I:Inv X pins σ H s):s.heap.FunFrames X.base X.outer:=by
 have all:∀ (l:List Env),(∀ b∈frs l,b∈X.fs)->X.s_0.heap.FunFrames X.base l->s.heap.FunFrames X.base l:=by
  intro l
  induction l with
  | nil=>intro _ _;trivial
  | cons env r ih=>
   intro hs hl
   obtain ⟨hk,⟨L,o,hf,hn,ho,hd⟩,hr⟩:=hl
   have hL:L∈X.fs:=hs L (by unfold frs;rw [List.filterMap_cons,hf];exact List.mem_cons_self)
   obtain ⟨sl,e⟩:=I.base.slot L o ho (I.ok.frf L hL) hL fun z=>I.ok.exfs L z hL
   exact ⟨hk,⟨L,_,hf,hn,e,hd⟩,ih (fun b hb=>hs b (by unfold frs;rw [List.filterMap_cons,hf];exact List.mem_cons_of_mem _ hb)) hr⟩
 exact all X.outer (fun _ hb=>hb) I.ok.funs
theorem Inv.stack (I:Inv X pins σ H s):s.heap.FunFrames X.base X.stack:=by
 rcases I.ok.stk with e | ⟨e,hf⟩
 ·rw [e];exact I.funs
 ·rw [e]
  obtain ⟨m,hn,_⟩:=I.loc
  refine .cons (by rw [I.ok.kind];decide) hf hn ?_ I.funs
  exact Heap.get?_none_of_le (Nat.le_trans I.ok.bsz I.ok.above)
theorem Inv.stkSub (I:Inv X pins σ H s):∀ b∈frs X.stack,b∈X.env.locals::X.fs:=fun b hb=>by
 rcases I.ok.stk with e | ⟨e,hf⟩
 ·rw [e] at hb;exact List.mem_cons_of_mem _ hb
 ·rw [e] at hb
  unfold frs at hb
  rw [List.filterMap_cons,hf] at hb
  exact hb
theorem Inv.stkFree (I:Inv X pins σ H s):∀ b∈frs X.stack,H b=none:=fun b hb=>by
 rcases List.mem_cons.mp (I.stkSub b hb) with e | hb
 ·rw [e];exact I.free
 ·obtain ⟨_,o,ho,_⟩:=I.ok.funs.mem hb
  exact I.base.free b o ho (I.ok.frf b hb) fun z=>I.ok.exfs b z hb
theorem Inv.step {g':Array GenState}{t':Nat}{d':Drawn}{ch:List Addr}(I:Inv X pins σ H s)
  (hch:∀ b∈ch,(b∈X.ex\/X.s_0.heap.objs.size<=b)/\b≠X.env.locals/\(∀ x c,X.env.cells.lookup x=some c->c≠b)/\∀ p∈X.pn++pins,p.1≠b)
  (keep:∀ b o,b≠X.env.locals->b ∉ X.fs->b ∉ ch->s.heap.get? b=some o->H b=none->h'.get? b=some o)
  (slot:∀ b o,b≠X.env.locals->b∈X.fs->b ∉ ch->s.heap.get? b=some o->H b=none->∃ sl,h'.get? b=some {o with slots:=sl})(free:∀ b o,b ∉ ch->s.heap.get? b=some o->H b=none->H' b=none)
  (there:∀ b o,b ∉ ch->s.heap.get? b=some o->∃ o',h'.get? b=some o')
  (tups:∀ b xs,H b=some (.tup xs)->H' b=some (.tup xs))(frzs:∀ b o u,H b=some (.frz o u)->H' b=some (.frz o u))(tbls:∀ b ps,H b=some (.tbl ps)->∃ more,H' b=some (.tbl (ps++more)))
  (ns:∀ m,s.heap.Ns X.env.locals m->h'.Ns X.env.locals m)(hok:HOk X.prog X.w H' h')(hg:AllBare g'):
  Inv X pins σ H' {s with heap:=h',gens:=g',drawn:=d',toks:=t'}:=by
 have neL:∀ b o,X.s_0.heap.get? b=some o->b≠X.env.locals:=fun b o e=>Nat.ne_of_lt (Nat.lt_of_lt_of_le (Heap.lt_size e) I.ok.above)
 have neC:∀ b o,X.s_0.heap.get? b=some o->b ∉ X.ex->b ∉ ch:=fun b o e hx hb=>by
  rcases (hch b hb).1 with z | z
  ·exact hx z
  ·exact absurd (Nat.lt_of_lt_of_le (Heap.lt_size e) z) (Nat.lt_irrefl _)
 have cellK:∀ x c,X.env.cells.lookup x=some c->∀ v,s.heap.IsCell c v->h'.IsCell c v:=fun x c e v ⟨o,ho,hd⟩=>by
  have nch:c ∉ ch:=fun z=>(hch c z).2.2.1 x c e rfl
  by_cases hc:c∈X.fs
  ·obtain ⟨sl,q⟩:=slot c o (I.cne x c e) hc nch ho (I.freeC x c e)
   exact ⟨_,q,hd⟩
  ·exact ⟨o,keep c o (I.cne x c e) hc nch ho (I.freeC x c e),hd⟩
 refine ⟨I.ok,I.os,hg,⟨fun b o e n hb hx=>?_,fun b o e n hb hx=>?_,fun b o e n hx=>?_,fun b o e hx=>?_,fun b xs e=>tups b xs (I.base.tups b xs e),fun b o xs e=>frzs b o xs (I.base.frzs b o xs e),fun b ps e=>?_⟩,?_,fun x c e=>?_,?_,fun x c e=>?_,fun p hp=>?_,hok,I.len⟩
 ·exact keep b o (neL b o e) hb (neC b o e hx) (I.base.keep b o e n hb hx) (I.base.free b o e n hx)
 ·obtain ⟨sl,e1⟩:=I.base.slot b o e n hb hx
  obtain ⟨sl',e2⟩:=slot b _ (neL b o e) hb (neC b o e hx) e1 (I.base.free b o e n hx)
  exact ⟨sl',e2⟩
 ·obtain ⟨o',e1⟩:=I.base.there b o e hx
  exact free b o' (neC b o e hx) e1 (I.base.free b o e n hx)
 ·obtain ⟨o',e1⟩:=I.base.there b o e hx
  exact there b o' (neC b o e hx) e1
 ·obtain ⟨m1,e1⟩:=I.base.tbls b ps e
  obtain ⟨m2,e2⟩:=tbls b _ e1
  exact ⟨m1++m2,by rw [e2,Array.append_assoc]⟩
 ·obtain ⟨m,hn,hl⟩:=I.loc
  refine ⟨m,ns m hn,fun i x v e1 e2 e3=>?_⟩
  obtain ⟨u,r,l⟩:=hl i x v e1 e2 e3
  refine ⟨u,r,?_⟩
  rcases l with l | ⟨k,c,e,z⟩
  ·exact .inl l
  ·exact .inr ⟨k,c,e,cellK x c e _ z⟩
 ·obtain ⟨v,z⟩:=I.cell x c e
  exact ⟨v,cellK x c e v z⟩
 ·obtain ⟨m,⟨o,_,_,ho,_⟩,_⟩:=I.loc
  exact free _ o (fun z=>(hch _ z).2.1 rfl) ho I.free
 ·obtain ⟨v,o,ho,hd⟩:=I.cell x c e
  exact free c o (fun z=>(hch c z).2.2.1 x c e rfl) ho (I.freeC x c e)
 ·obtain ⟨e,n,ne,nf,d⟩:=I.pin p hp
  have nch:p.1 ∉ ch:=fun z=>(hch p.1 z).2.2.2 p hp rfl
  exact ⟨keep p.1 p.2 ne nf nch e n,free p.1 p.2 nch e n,ne,nf,d⟩
theorem Inv.un {t':Nat}(I:Inv X pins σ H s)(u:Un X.fs [] H H' s.heap h')(hok:HOk X.prog X.w H' h'):Inv X pins σ H' {s with heap:=h',toks:=t'}:=by
 obtain ⟨m,⟨o,es,ep,ho,r⟩,_⟩:=id I.loc
 obtain ⟨sl,hL⟩:=u.any ho I.free (by simp)
 exact I.step (g':=s.gens) (d':=s.drawn) (ch:=[]) (fun _ z=>nomatch z) (fun b o _ hb _ e n=>u.keep b o e n hb (by simp)) (fun b o _ hb _ e n=>u.slot b o e n hb (by simp)) (fun b o _ e n=>u.free b o e n (by simp)) (fun b o _ e=>u.there b o e (by simp)) u.tups u.frzs u.tbls (fun m' hm=>by
  obtain ⟨o',es',ep',ho',r'⟩:=hm
  rw [ho] at ho';cases ho'
  exact ⟨_,es',ep',hL,r'⟩) hok I.bare
theorem Inv.call {g':Array GenState}{t':Nat}{d':Drawn}{ch:List Addr}(I:Inv X pins σ H s)(u:Un (frs X.stack) ch H H' s.heap h')(hok:HOk X.prog X.w H' h')(hg:AllBare g')
  (hch:∀ b∈ch,(b∈X.ex\/X.s_0.heap.objs.size<=b)/\b≠X.env.locals/\(∀ x c,X.env.cells.lookup x=some c->c≠b)/\∀ p∈X.pn++pins,p.1≠b):
  Inv X pins σ H' {s with heap:=h',gens:=g',drawn:=d',toks:=t'}:=by
 obtain ⟨m,⟨o,es,ep,ho,r⟩,_⟩:=id I.loc
 obtain ⟨sl,hL⟩:=u.any ho I.free fun z=>(hch _ z).2.1 rfl
 exact I.step (ch:=ch) hch (fun b o hL hb hc e n=>u.keep b o e n (fun z=>(List.mem_cons.mp (I.stkSub b z)).elim hL hb) hc) (fun b o _ _ hc e n=>u.any e n hc) (fun b o hc e n=>u.free b o e n hc) (fun b o hc e=>u.there b o e hc) u.tups u.frzs u.tbls (fun m' hm=>by
  obtain ⟨o',es',ep',ho',r'⟩:=hm
  rw [ho] at ho';cases ho'
  exact ⟨_,es',ep',hL,r'⟩) hok hg
theorem Inv.turned {t':Nat}{it:Addr}(I:Inv X pins σ H s)(k:∀ b o,b≠it->s.heap.get? b=some o->h'.get? b=some o)(hn:H it=none)(hL:it≠X.env.locals)
  (h1:it∈X.ex\/X.s_0.heap.objs.size<=it)(h2:∀ x c,X.env.cells.lookup x=some c->c≠it)(h3:∀ p∈X.pn++pins,p.1≠it):Inv X pins σ H {s with heap:=h',toks:=t'}:=by
 have nit:∀ b u,H b=some u->b≠it:=fun b u e z=>by rw [z,hn] at e;cases e
 refine I.step (g':=s.gens) (d':=s.drawn) (ch:=[it]) (fun b hb=>?_) (fun b o _ _ hc e _=>k b o (fun z=>hc (by simp [z])) e) (fun b o _ _ hc e _=>⟨o.slots,k b o (fun z=>hc (by simp [z])) e⟩) (fun _ _ _ _ n=>n)
  (fun b o hc e=>⟨o,k b o (fun z=>hc (by simp [z])) e⟩) (fun _ _ e=>e) (fun _ _ _ e=>e) (fun b ps e=>⟨#[],by rw [e];simp⟩) (fun m hm=>?_) (fun b u e=>?_) I.bare
 ·have e:b=it:=by simpa using hb
  subst e
  exact ⟨h1,hL,h2,h3⟩
 ·obtain ⟨o,es,ep,ho,r⟩:=hm
  exact ⟨o,es,ep,k _ o (Ne.symm hL) ho,r⟩
 ·refine (I.hok b u e).stay (fun c v hc q=>k c v ?_ q) (fun _ q=>q) fun _ _ q=>q
  rcases hc with z | z
  ·rw [z];exact nit b u e
  ·exact nit c _ z
theorem Inv.tok (I:Inv X pins σ H s)(t:Nat):Inv X pins σ H {s with toks:=t}:=I.un (h':=s.heap) (t':=t) Un.refl I.hok
theorem Inv.kept {t':Nat}(I:Inv X pins σ H s)(k:∀ b u,s.heap.get? b=some u->h'.get? b=some u):Inv X pins σ H {s with heap:=h',toks:=t'}:=I.un (Un.kept k) (I.hok.kept k)
theorem Inv.laid {a:Addr}{o:HO}{t':Nat}(I:Inv X pins σ H s)(k:∀ b u,s.heap.get? b=some u->h'.get? b=some u)(hp:s.heap.objs.size<=a)(new:dH X.prog X.w (upd H a o) h' a o):
  Inv X pins σ (upd H a o) {s with heap:=h',toks:=t'}:=I.un (Un.laid k hp (I.hok.fresh hp)) (I.hok.laid k hp new)
theorem Inv.write {x e:Addr}{o:HO}{t':Nat}(I:Inv X pins σ H s)(mu:Mut (H x))(he:e=x\/H e=some (.own x))(k:∀ b u,b≠e->s.heap.get? b=some u->h'.get? b=some u)(heo:∃ u,h'.get? e=some u)
  (new:dH X.prog X.w (upd H x o) h' x o):Inv X pins σ (upd H x o) {s with heap:=h',toks:=t'}:=I.un (Un.write mu he k heo) (I.hok.write mu he k heo new)
theorem Inv.weak {σ':List (Option V)}(I:Inv X pins σ H s)(hl:σ'.length=σ.length)(w:∀ (i:Nat) v,σ'[i]?=some (some v)->σ[i]?=some (some v)):Inv X pins σ' H s:=
 ⟨I.ok,I.os,I.bare,I.base,let ⟨m,hn,hl'⟩:=I.loc;⟨m,hn,fun i x v e1 e2 e3=>hl' i x v e1 (w i v e2) e3⟩,I.cell,I.free,I.freeC,I.pin,I.hok,hl.trans I.len⟩
theorem Inv.pins_of {pins':List (Addr×Obj)}(I:Inv X pins σ H s)(h:∀ p∈pins',s.heap.get? p.1=some p.2/\H p.1=none/\p.1≠X.env.locals/\p.1 ∉ X.fs/\∀ v,p.2.data≠.cell v):Inv X pins' σ H s:=
 ⟨I.ok,I.os,I.bare,I.base,I.loc,I.cell,I.free,I.freeC,fun p hp=>(List.mem_append.mp hp).elim (fun z=>I.pin p (List.mem_append_left _ z)) (h p),I.hok,I.len⟩
theorem qC {N:List Str}(hN:N.Nodup){i j:Nat}{x:Str}(a:N[i]?=some x)(b:N[j]?=some x):i=j:=by
 obtain ⟨h1,e1⟩:=List.getElem?_eq_some_iff.mp a
 obtain ⟨h2,e2⟩:=List.getElem?_eq_some_iff.mp b
 exact (List.getElem_inj hN).mp (e1.trans e2.symm)
theorem sw {M:Model}{A:Around}{E:Value->Shared->Prop}{i:Nat}{x:Str}{v:V}{u:Value}{Q:Unit->Shared->Prop}(I:Inv X pins σ H s)(hN:X.N.Nodup)(hi:X.N[i]?=some x)(hx:Loc X.env.scope x)(r:bA v u)
  (h:∀ s',Inv X pins (σ.set i (some v)) H s'->(∃ a,Heap.SameBut a s.heap s'.heap/\(a=X.env.locals\/X.env.cells.lookup x=some a))->Q () s')(hf:X.fn x=true\/X.env.scope.names.lookup x=some .local:=by first | exact .inl rfl | exact .inr rfl | assumption):wpAny M A (storeName X.env x u) Q E s:=by
 obtain ⟨m,hn,hl⟩:=id I.loc
 have hcls:(X.env.scope.kind == .class || (X.env.scope.kind == .module&&X.env.locals != X.env.globals))=false:=by rw [I.ok.kind];rfl
 have hiσ:i < σ.length:=by rw [I.len];exact (List.getElem?_eq_some_iff.mp hi).1
 have cne:=I.cne
 have tracked:∀ {a:Addr} {h':Heap},(∃ o,s.heap.get? a=some o/\H a=none)->Heap.SameBut a s.heap h'->HOk X.prog X.w H h':=fun {a h'} ha hs b ob e=>by
  obtain ⟨_,_,hfree⟩:=ha
  refine (I.hok b ob e).stay (fun c w' hc q=>(hs.2 c ?_).trans q) (fun _ q=>q) fun _ _ q=>q
  rintro rfl
  rcases hc with rfl | hc
  ·rw [hfree] at e;cases e
  ·rw [hfree] at hc;cases hc
 rcases hx with hk | hk
 ·refine wpAny_storeName_local hk hn (fun h' hn' hs=>?_) hcls
  obtain ⟨oL,_,_,hoL,_⟩:=id hn
  refine h _ ⟨I.ok,I.os,I.bare,⟨fun b o e n hb hx=>?_,fun b o e n hb hx=>?_,I.base.free,fun b o e hx=>?_,I.base.tups,I.base.frzs,I.base.tbls⟩,⟨_,hn',fun j y v' e1 e2 e3=>?_⟩,fun y c e=>?_,I.free,I.freeC,fun p hp=>?_,tracked ⟨oL,hoL,I.free⟩ hs,by simpa using I.len⟩ ⟨_,hs,.inl rfl⟩
  ·exact (hs.2 b (Nat.ne_of_lt (Nat.lt_of_lt_of_le (Heap.lt_size e) I.ok.above))).trans (I.base.keep b o e n hb hx)
  ·obtain ⟨sl,e1⟩:=I.base.slot b o e n hb hx
   exact ⟨sl,(hs.2 b (Nat.ne_of_lt (Nat.lt_of_lt_of_le (Heap.lt_size e) I.ok.above))).trans e1⟩
  ·obtain ⟨o',e1⟩:=I.base.there b o e hx
   exact ⟨o',(hs.2 b (Nat.ne_of_lt (Nat.lt_of_lt_of_le (Heap.lt_size e) I.ok.above))).trans e1⟩
  ·by_cases hj:j=i
   ·subst hj
    rw [hi] at e1;cases e1
    rw [List.getElem?_set_self hiσ] at e2
    cases e2
    exact ⟨u,r,.inl ⟨hk,by simp⟩⟩
   ·rw [List.getElem?_set_ne (Ne.symm hj)] at e2
    obtain ⟨u',r',q⟩:=hl j y v' e1 e2 e3
    refine ⟨u',r',?_⟩
    rcases q with ⟨k,e⟩ | ⟨k,c,e,z⟩
    ·refine .inl ⟨k,?_⟩
     have:y≠x:=fun e=>hj (qC hN e1 (e ▸ hi))
     simp [this,e]
    ·exact .inr ⟨k,c,e,z.sameBut hs (cne y c e)⟩
  ·obtain ⟨w',z⟩:=I.cell y c e
   exact ⟨w',z.sameBut hs (cne y c e)⟩
  ·obtain ⟨e,n,ne,nf,d⟩:=I.pin p hp
   exact ⟨(hs.2 p.1 ne).trans e,n,ne,nf,d⟩
 ·have hfn:X.fn x=true:=by
   rcases hf with z | z
   ·exact z
   ·rw [z] at hk;cases hk
  obtain ⟨c,hc⟩:=I.ok.has x (.inl hk)
  obtain ⟨w',z⟩:=I.cell x c hc
  refine wpAny_storeName_cell I.ok.kind hk hc z (fun h' hc' hs=>?_)
  obtain ⟨oc,hoc,hocd⟩:=id z
  refine h {s with heap:=h'} ⟨I.ok,I.os,I.bare,⟨fun b o e n hb hx=>?_,fun b o e n hb hx=>?_,I.base.free,fun b o e hx=>?_,I.base.tups,I.base.frzs,I.base.tbls⟩,⟨m,hn.sameBut hs (Ne.symm (cne x c hc)),fun j y v' e1 e2 e3=>?_⟩,fun y c' e=>?_,I.free,I.freeC,fun p hp=>?_,tracked ⟨oc,hoc,I.freeC x c hc⟩ hs,by simpa using I.len⟩ ⟨c,hs,.inr hc⟩
  ·exact (hs.2 b (Nat.ne_of_lt (Nat.lt_of_lt_of_le (Heap.lt_size e) (I.ok.cab x c hfn hc)))).trans (I.base.keep b o e n hb hx)
  ·obtain ⟨sl,e1⟩:=I.base.slot b o e n hb hx
   exact ⟨sl,(hs.2 b (Nat.ne_of_lt (Nat.lt_of_lt_of_le (Heap.lt_size e) (I.ok.cab x c hfn hc)))).trans e1⟩
  ·obtain ⟨o',e1⟩:=I.base.there b o e hx
   exact ⟨o',(hs.2 b (Nat.ne_of_lt (Nat.lt_of_lt_of_le (Heap.lt_size e) (I.ok.cab x c hfn hc)))).trans e1⟩
  ·by_cases hj:j=i
   ·subst hj
    rw [hi] at e1;cases e1
    rw [List.getElem?_set_self hiσ] at e2
    cases e2
    exact ⟨u,r,.inr ⟨.inl hk,c,hc,hc'⟩⟩
   ·rw [List.getElem?_set_ne (Ne.symm hj)] at e2
    obtain ⟨u',r',q⟩:=hl j y v' e1 e2 e3
    refine ⟨u',r',?_⟩
    rcases q with q | ⟨k,c',e,z'⟩
    ·exact .inl q
    ·refine .inr ⟨k,c',e,z'.sameBut hs ?_⟩
     rintro rfl
     exact hj (qC hN e1 (I.ok.inj _ _ _ e hc ▸ hi))
  ·by_cases hcc:c'=c
   ·subst hcc;exact ⟨_,hc'⟩
   ·obtain ⟨w2,z2⟩:=I.cell y c' e
    exact ⟨w2,z2.sameBut hs hcc⟩
  ·obtain ⟨e,n,ne,nf,d⟩:=I.pin p hp
   refine ⟨(hs.2 p.1 ?_).trans e,n,ne,nf,d⟩
   intro q
   rw [q,hoc] at e
   have q':oc=p.2:=Option.some.inj e
   exact d w' (by rw [<-q'];exact hocd)
theorem pw {M:Model}{A:Around}{E:Value->Shared->Prop}{i:Nat}{x:Str}{v:V}{u:Value}{Q:Unit->Shared->Prop}(I:Inv X pins σ H s)(hN:X.N.Nodup)(hi:X.N[i]?=some x)(hx:Loc X.env.scope x)(r:bA v u)
  (h:∀ s',Inv X pins (σ.set i (some v)) H s'->Q () s')(hf:X.fn x=true\/X.env.scope.names.lookup x=some .local:=by first | exact .inl rfl | exact .inr rfl | assumption):wpAny M A (storeName X.env x u) Q E s:=
 sw I hN hi hx r (fun s' I' _=>h s' I') hf
theorem Inv.call' {s':Shared}{ch:List Addr}(I:Inv X pins σ H s)(ho:s'.os=s.os)(u:Un (frs X.stack) ch H H' s.heap s'.heap)(hok:HOk X.prog X.w H' s'.heap)(hg:AllBare s'.gens)
  (hch:∀ b∈ch,(b∈X.ex\/X.s_0.heap.objs.size<=b)/\b≠X.env.locals/\(∀ x c,X.env.cells.lookup x=some c->c≠b)/\∀ p∈X.pn++pins,p.1≠b):Inv X pins σ H' s':=by
 obtain ⟨h',g',d',t',o'⟩:=s'
 have e:o'=s.os:=ho
 subst e
 exact I.call (g':=g') (t':=t') (d':=d') u hok hg hch
end
abbrev XK:=Value->Option Addr->Hp->Prop
abbrev St:=List (Option V)
abbrev VK:=V->Hp->Prop
abbrev TE:=St->Hp->VK->Prop
abbrev TT:=St->Hp->(Bool->Hp->Prop)->Prop
abbrev TA:=St->Hp->(List V->Hp->Prop)->Prop
structure Ends where
 nx:St->Hp->Prop
 rt:VK
 bk:St->Hp->Prop:=fun _ _=>False
 ct:St->Hp->Prop:=fun _ _=>False
abbrev TS:=Ends->St->Hp->Prop
def EP (X:Cx)(pins:List (Addr×Obj))(σ:St)(Q:VK)(u:Value)(s':Shared):Prop:=∃ v H',Inv X pins σ H' s'/\bA v u/\Q v H'
def TP (X:Cx)(pins:List (Addr×Obj))(σ:St)(Q:Bool->Hp->Prop)(b:Bool)(s':Shared):Prop:=∃ H',Inv X pins σ H' s'/\Q b H'
def AP (X:Cx)(pins:List (Addr×Obj))(σ:St)(Q:List V->Hp->Prop)(us:List Value)(s':Shared):Prop:=∃ vs H',Inv X pins σ H' s'/\Vals vs us/\Q vs H'
def SP (X:Cx)(pins:List (Addr×Obj))(D:Ends)(f:Flow)(s':Shared):Prop:=
 match f with
 | .next=>∃ σ' H',Inv X pins σ' H' s'/\D.nx σ' H'
 | .brk=>∃ σ' H',Inv X pins σ' H' s'/\D.bk σ' H'
 | .cont=>∃ σ' H',Inv X pins σ' H' s'/\D.ct σ' H'
 | .ret u=>∃ v σ' H',Inv X pins σ' H' s'/\bA v u/\D.rt v H'
def PE (X:Cx)(e:Expr)(t:TE):Prop:=
 ∀ (pins:List (Addr×Obj)) (s:Shared) (σ:St) (H:Hp) (Q:VK),Inv X pins σ H s->t σ H Q->wpAny (model X.prog X.w) X.A (eval e X.env) (EP X pins σ Q) X.xe s
def PT (X:Cx)(e:Expr)(t:TT):Prop:=
 ∀ (pins:List (Addr×Obj)) (s:Shared) (σ:St) (H:Hp) (Q:Bool->Hp->Prop),Inv X pins σ H s->t σ H Q->wpAny (model X.prog X.w) X.A (isTrue e X.env (eval e X.env)) (TP X pins σ Q) X.xe s
def PW (X:Cx)(e:Expr)(t:TT):Prop:=
 ∀ (whole:Sem Value) (pins:List (Addr×Obj)) (s:Shared) (σ:St) (H:Hp) (Q:Bool->Hp->Prop),Inv X pins σ H s->t σ H Q->wpAny (model X.prog X.w) X.A (isTrue e X.env whole) (TP X pins σ Q) X.xe s
theorem PW.pt {X:Cx}{e:Expr}{t:TT}(h:PW X e t):PT X e t:=h _
def PA (X:Cx)(es:List Expr)(t:TA):Prop:=
 ∀ (pos:Pos) (pins:List (Addr×Obj)) (s:Shared) (σ:St) (H:Hp) (Q:List V->Hp->Prop),Inv X pins σ H s->t σ H Q->wpAny (model X.prog X.w) X.A (spliced (backTo pos (starEach es X.env))) (AP X pins σ Q) X.xe s
def PS (X:Cx)(st:Stmt)(t:TS):Prop:=
 ∀ (pins:List (Addr×Obj)) (s:Shared) (σ:St) (H:Hp) (D:Ends),Inv X pins σ H s->t D σ H->wpAny (model X.prog X.w) X.A (exec st X.env) (SP X pins D) X.xe s
def PSs (X:Cx)(st:List Stmt)(t:TS):Prop:=
 ∀ (pins:List (Addr×Obj)) (s:Shared) (σ:St) (H:Hp) (D:Ends),Inv X pins σ H s->t D σ H->wpAny (model X.prog X.w) X.A (execs st X.env) (SP X pins D) X.xe s
theorem thn {α:Type}{t:Sem α}{Q Q':α->Shared->Prop}{M:Model}{A:Around}{E:Value->Shared->Prop}{s:Shared}(h:wpAny M A t Q E s)(hQ:∀ a s,Q a s->Q' a s):wpAny M A t Q' E s:=wpAny_mono h hQ fun _ _ x=>x
end L2
namespace L2
open PySem PySem.Spec PyProof.Rows
section
variable {X:Cx}
def afS (i:Nat):TE:=fun σ H Q=>∃ v,σ[i]?=some (some v)/\Q v H
def tC (v:V):TE:=fun _ H Q=>Q v H
theorem abq {i:Nat}{x:Str}{pos:Pos}(hN:X.N[i]?=some x)(hv:Vis X.env.scope x)(hd:(x == ("__debug__":Str))=false:=by decide)(hcd:(x == ("__classdict__":Str))=false:=by decide):PE X (.Name x pos) (afS i):=by
 intro pins s σ H Q I h
 obtain ⟨v,e,h⟩:=h
 obtain ⟨m,hn,hl⟩:=I.loc
 obtain ⟨u,r,l⟩:=hl i x v hN e hv
 have fin:EP X pins σ Q u s:=⟨v,H,I,r,h⟩
 rcases l with ⟨hk,hm⟩ | ⟨hk,c,hc,hcell⟩
 ·exact wpAny_Name (wpAny_loadName_local I.ok.kind hk hn hm fin) hd
 ·rcases hk with hk | hk
  ·exact wpAny_Name (wpAny_loadName_cell I.ok.kind hk hc hcell fin) hd
  ·exact wpAny_Name (wpAny_loadName_free I.ok.kind hk hc hcell fin hcd) hd
theorem xp  {i j pos}:PE X (.Constant (.int i) j pos) (tC (.int i)):=fun _ _ _ H _ I h=>wpAny_Constant_int ⟨.int i,H,I.tok _,⟨_,rfl⟩,h⟩
theorem ae4  {b j pos}:PE X (.Constant (.bool b) j pos) (tC (.bl b)):=fun _ _ _ H _ I h=>Constant_bool ⟨.bl b,H,I,rfl,h⟩
theorem adV  {j pos}:PE X (.Constant .none j pos) (tC .non):=fun _ _ _ H _ I h=>Constant_none ⟨.non,H,I,rfl,h⟩
def Gl (X:Cx)(x:Str):Prop:=X.env.kindOf x=some .globalImplicit
theorem oz {E:Value->Shared->Prop}{pins:List (Addr×Obj)}{s:Shared}{σ:St}{H:Hp}{x:Str}{u:Value}{pos:Pos}{Q:Value->Shared->Prop}(I:Inv X pins σ H s)(hg:Gl X x)(hm:X.mg x=some u)(h:Q u s)
  (hd:(x == ("__debug__":Str))=false:=by decide):wpAny (model X.prog X.w) X.A (eval (.Name x pos) X.env) Q E s:=
 Calls.Name_function_global I.ok.kind hg (Calls.loadGlobal_global (by rw [I.ok.glob];exact I.mod.glob.keeps I.bk) hm h) hd
theorem mO {E:Value->Shared->Prop}{pins:List (Addr×Obj)}{s:Shared}{σ:St}{H:Hp}{x:Str}{u:Value}{pos:Pos}{Q:Value->Shared->Prop}(I:Inv X pins σ H s)(hg:Gl X x)(hm:X.mg x=none)(hv:bootBuiltins x=some u)(h:Q u s)
  (hn:x≠"__name__":=by decide)(hd:(x == ("__debug__":Str))=false:=by decide):wpAny (model X.prog X.w) X.A (eval (.Name x pos) X.env) Q E s:=by
 obtain ⟨mb,h1,h2⟩:=I.mod.blt
 exact Calls.Name_function_global I.ok.kind hg (Calls.loadGlobal_builtin (by rw [I.ok.glob];exact I.mod.glob.keeps I.bk) hm (by rw [I.ok.blt];exact h1.keeps I.bk) ((h2 x hn).trans hv) h) hd
theorem acy {x:Str}{v:V}{u:Value}{pos:Pos}(hg:Gl X x)(hm:X.mg x=some u)(r:bA v u)(hd:(x == ("__debug__":Str))=false:=by decide):PE X (.Name x pos) (tC v):=
 fun _ _ _ H _ I h=>oz I hg hm ⟨v,H,I,r,h⟩ hd
variable {a b:Expr}{ta tb:TE}{pos:Pos}
def PC (X:Cx)(op:CmpOp)(a b:Expr)(t:TE):Prop:=
 ∀ (pins:List (Addr×Obj)) (s:Shared) (σ:St) (H:Hp) (Q:VK),Inv X pins σ H s->t σ H Q->
  wpAny (model X.prog X.w) X.A (eval a X.env) (fun v s₁=>wpAny (model X.prog X.w) X.A (eval b X.env) (fun u s₂=>wpAny (model X.prog X.w) X.A (compareOp op v u) (EP X pins σ Q) X.xe s₂) X.xe s₁) X.xe s
theorem abk (b:Expr){op:CmpOp}(h:op≠.In)(h2:op≠.NotIn):behindInMarks op b=false:=by
 have e1:(op == CmpOp.In)=false:=by cases op<;>first | rfl | exact absurd rfl h
 have e2:(op == CmpOp.NotIn)=false:=by cases op<;>first | rfl | exact absurd rfl h2
 cases b<;>simp [behindInMarks,e1,e2]
def af3 (ta:TE):TE:=fun σ H Q=>ta σ H fun x H1=>Q (.bl (decide (x=.non))) H1
theorem bA.none_iff {x:V}{v:Value}(r:bA x v):(v == Value.none)=decide (x=.non):=by
 cases x with
 | non=>cases r;rfl
 | bl _=>cases r;rfl
 | int _=>obtain ⟨t,rfl⟩:=r;rfl
 | str _=>obtain ⟨t,rfl⟩:=r;rfl
 | byt _=>obtain ⟨t,rfl⟩:=r;rfl
 | flt _=>obtain ⟨t,rfl⟩:=r;rfl
 | ref _=>cases r;rfl
 | ty _=>cases r;rfl
theorem aed  {j pos'} (ha:PE X a ta):PC X .Is a (.Constant .none j pos') (af3 ta):=by
 intro pins s σ H Q I h
 refine thn (ha pins s σ H _ I h) fun v s1 ⟨x,H1,I1,r1,q1⟩=>?_
 exact Constant_none (is_none_gen ⟨.bl _,H1,I1,by rw [r1.none_iff];rfl,q1⟩)
def tB (t:TE):TT:=fun σ H Q=>t σ H fun x H1=>∃ c,x=.bl c/\Q c H1
theorem adL {op:CmpOp}{t:TE}(h:PC X op a b t)(h1:behindInMarks op b=false:=by first | exact abk _ (by decide) (by decide) | rfl):PT X (.Compare a [op] [b] pos) (tB t):=by
 intro pins s σ H Q I hw
 refine wpAny_isTrue_Compare1 (thn (h pins s σ H _ I hw) fun v s1 h1=>thn h1 fun u s2 h2=>thn h2 fun c s3 ⟨x,H1,I1,r1,q1⟩=>?_) h1
 obtain ⟨d,rfl,q⟩:=q1
 cases r1
 exact wpAny_truthy_bool ⟨H1,I1,q⟩
theorem aaD {e:Expr}{t:TE}(h:PE X e t)(he:∀ whole,isTrue e X.env whole=(do let v <-whole;standAt e.pos;holding [v] (truthy v)):=by intro _;rfl):PT X e (tB t):=by
 intro pins s σ H Q I hw
 refine isTrue_plain (thn (h pins s σ H _ I hw) fun v s1 ⟨x,H1,I1,r1,q1⟩=>?_) (he _)
 obtain ⟨d,rfl,q⟩:=q1
 cases r1
 exact wpAny_truthy_bool ⟨H1,I1,q⟩
variable {tA tB':TT}{rest:List Expr}
def afU (t u:TT):TT:=fun σ H Q=>t σ H fun c H1=>if c=true then u σ H1 Q else Q false H1
def tOr (t u:TT):TT:=fun σ H Q=>t σ H fun c H1=>if c=true then Q true H1 else u σ H1 Q
def afF (t:TT):TT:=fun σ H Q=>t σ H fun c H1=>Q (!c) H1
theorem acY (ha:PT X a tA):PW X (.BoolOp .And [a] pos) tA:=by
 intro wh pins s σ H Q I h
 refine isTrue_and (thn (ha pins s σ H Q I h) fun c s1 e=>?_)
 cases c with
 | true=>exact isTrue_and_nil e
 | false=>exact e
theorem aeV (ha:PT X a tA):PW X (.BoolOp .Or [a] pos) tA:=by
 intro wh pins s σ H Q I h
 refine isTrue_or (thn (ha pins s σ H Q I h) fun c s1 e=>?_)
 cases c with
 | false=>exact isTrue_or_nil e
 | true=>exact e
theorem aeG (ha:PT X a tA)(hb:PW X (.BoolOp .And (b::rest) pos) tB'):PW X (.BoolOp .And (a::b::rest) pos) (afU tA tB'):=by
 intro wh pins s σ H Q I h
 refine isTrue_and (thn (ha pins s σ H _ I h) fun c s1 ⟨H1,I1,q1⟩=>?_)
 cases c with
 | true=>exact hb wh pins s1 σ H1 Q I1 q1
 | false=>exact ⟨H1,I1,q1⟩
theorem afk (ha:PT X a tA)(hb:PW X (.BoolOp .Or (b::rest) pos) tB'):PW X (.BoolOp .Or (a::b::rest) pos) (tOr tA tB'):=by
 intro wh pins s σ H Q I h
 refine isTrue_or (thn (ha pins s σ H _ I h) fun c s1 ⟨H1,I1,q1⟩=>?_)
 cases c with
 | true=>exact ⟨H1,I1,q1⟩
 | false=>exact hb wh pins s1 σ H1 Q I1 q1
theorem ab4 (ha:PT X a tA):PT X (.UnaryOp .Not a pos) (afF tA):=by
 intro pins s σ H Q I h
 exact isTrue_not (ha pins s σ H (fun c H1=>Q (!c) H1) I h)
def afu (ta tb:TE):TE:=fun σ H Q=>ta σ H fun x H1=>∃ c,x=.bl c/\if c=true then tb σ H1 Q else Q (.bl false) H1
def af1 (ta tb:TE):TE:=fun σ H Q=>ta σ H fun x H1=>∃ c,x=.bl c/\if c=true then Q (.bl true) H1 else tb σ H1 Q
theorem aeL  {op} {t:TE} (h:PE X a t):PE X (.BoolOp op [a] pos) t:=fun pins s σ H Q I hw=>BoolOp_one (h pins s σ H Q I hw)
theorem adU (ha:PE X a ta)(hb:PE X (.BoolOp .And (b::rest) pos) tb):PE X (.BoolOp .And (a::b::rest) pos) (afu ta tb):=by
 intro pins s σ H Q I h
 refine BoolOp_and (thn (ha pins s σ H _ I h) fun v s1 ⟨x,H1,I1,r1,q1⟩=>?_)
 obtain ⟨c,rfl,q1⟩:=q1
 cases r1
 refine wpAny_truthy_bool ?_
 cases c with
 | true=>exact hb pins s1 σ H1 Q I1 q1
 | false=>exact ⟨.bl false,H1,I1,rfl,q1⟩
theorem aft (ha:PE X a ta)(hb:PE X (.BoolOp .Or (b::rest) pos) tb):PE X (.BoolOp .Or (a::b::rest) pos) (af1 ta tb):=by
 intro pins s σ H Q I h
 refine BoolOp_or (thn (ha pins s σ H _ I h) fun v s1 ⟨x,H1,I1,r1,q1⟩=>?_)
 obtain ⟨c,rfl,q1⟩:=q1
 cases r1
 refine wpAny_truthy_bool ?_
 cases c with
 | false=>exact hb pins s1 σ H1 Q I1 q1
 | true=>exact ⟨.bl true,H1,I1,rfl,q1⟩
def tIf (t:TT)(ta tb:TE):TE:=fun σ H Q=>t σ H fun c H1=>if c=true then ta σ H1 Q else tb σ H1 Q
theorem abG {c:Expr}(hc:PT X c tA)(ha:PE X a ta)(hb:PE X b tb):PE X (.IfExp c a b pos) (tIf tA ta tb):=by
 intro pins s σ H Q I h
 refine wpAny_IfExp (thn (hc pins s σ H _ I h) fun d s1 ⟨H1,I1,q1⟩=>?_)
 cases d with
 | true=>exact ha pins s1 σ H1 Q I1 q1
 | false=>exact hb pins s1 σ H1 Q I1 q1
end
end L2
namespace L2
open PySem PySem.Spec PyProof.Rows
def SqL (K:PySem.W.Frag)(H:Hp)(a:Addr)(xs:List V):Prop:=
 Rd H a (.lst xs) ∨
  ∃ (o:Obj) (its:Array Value) (n:Nat),K.lookup a=some o/\o.cls=.type "list"/\o.dict=none/\o.data=.seq its n/\its.size<=sizeLine/\Vals xs its.toList
def SqT (K:PySem.W.Frag)(H:Hp)(a:Addr)(xs:List V):Prop:=
 Rd H a (.tup xs) ∨
  ∃ (o:Obj) (its:Array Value) (n:Nat),K.lookup a=some o/\o.cls=.type "tuple"/\o.data=.seq its n/\its.size<=sizeLine/\Vals xs its.toList
def afM:Value->Option V
 | .none=>some .non
 | .bool b=>some (.bl b)
 | .int i _=>some (.int i)
 | .str x _=>some (.str x)
 | .bytes b _=>some (.byt b)
 | .float b _=>some (.flt b)
 | .ref a=>some (.ref a)
 | .type n=>some (.ty n)
 | _=>none
theorem bA.abs {x:V}{u:Value}(r:bA x u):afM u=some x:=by
 cases x with
 | non=>cases r;rfl
 | bl _=>cases r;rfl
 | int _=>obtain ⟨t,rfl⟩:=r;rfl
 | str _=>obtain ⟨t,rfl⟩:=r;rfl
 | byt _=>obtain ⟨t,rfl⟩:=r;rfl
 | flt _=>obtain ⟨t,rfl⟩:=r;rfl
 | ref _=>cases r;rfl
 | ty _=>cases r;rfl
theorem bA.inj {x y:V}{u:Value}(r:bA x u)(q:bA y u):x=y:=Option.some.inj (r.abs.symm.trans q.abs)
theorem Vals.inj:∀ {xs ys:List V} {us:List Value},Vals xs us->Vals ys us->xs=ys
 | _,_,_,.nil,.nil=>rfl
 | _,_,_,.cons r t,.cons r' t'=>by rw [r.inj r',Vals.inj t t']
section
variable {X:Cx}{pins:List (Addr×Obj)}{σ:St}{H:Hp}{s:Shared}{a:Addr}{xs ys:List V}
theorem SqL.of {K:PySem.W.Frag}(h:H a=some (.lst xs)):SqL K H a xs:=.inl (.inl h)
theorem SqT.of {K:PySem.W.Frag}(h:H a=some (.tup xs)):SqT K H a xs:=.inl (.inl h)
theorem Inv.list (I:Inv X pins σ H s)(h:SqL X.K H a xs):∃ its:List Value,Vals xs its/\PlainL s.heap a its.toArray/\xs.length<=sizeLine:=by
 rcases h with h | ⟨o,its,n,hk,hc,hd,hs,hz,r⟩
 ·obtain ⟨z,its,n,r,e⟩:=h.ok I.hok
  exact ⟨its,r,⟨_,n,e,rfl,rfl,rfl⟩,z⟩
 ·refine ⟨its.toList,r,⟨o,n,I.kIn a o hk,hc,hd,by simpa using hs⟩,?_⟩
  have e:=r.length
  simp only [Array.length_toList] at e
  omega
theorem Inv.tuple (I:Inv X pins σ H s)(h:SqT X.K H a xs):∃ its:List Value,Vals xs its/\IsTup s.heap a its.toArray/\xs.length<=sizeLine:=by
 rcases h with h | ⟨o,its,n,hk,hc,hs,hz,r⟩
 ·obtain ⟨z,its,r,p⟩:=h.ok I.hok
  exact ⟨its,r,p,z⟩
 ·refine ⟨its.toList,r,⟨o,I.kIn a o hk,hc,n,by simpa using hs⟩,?_⟩
  have e:=r.length
  simp only [Array.length_toList] at e
  omega
theorem Inv.list_inj (I:Inv X pins σ H s)(h:SqL X.K H a xs)(h':SqL X.K H a ys):xs=ys:=by
 obtain ⟨its,r,⟨o,n,e,_,_,d⟩,_⟩:=I.list h
 obtain ⟨its',r',⟨o',n',e',_,_,d'⟩,_⟩:=I.list h'
 rw [e] at e';cases e'
 rw [d] at d'
 injection d' with d1 _
 have:its=its':=by simpa using congrArg Array.toList d1
 subst this
 exact r.inj r'
theorem Inv.tuple_inj (I:Inv X pins σ H s)(h:SqT X.K H a xs)(h':SqT X.K H a ys):xs=ys:=by
 obtain ⟨its,r,⟨o,e,_,n,d⟩,_⟩:=I.tuple h
 obtain ⟨its',r',⟨o',e',_,n',d'⟩,_⟩:=I.tuple h'
 rw [e] at e';cases e'
 rw [d] at d'
 injection d' with d1 _
 have:its=its':=by simpa using congrArg Array.toList d1
 subst this
 exact r.inj r'
end
abbrev Cx.wish (X:Cx)(E:Value->Shared->Prop):Cx:={X with xe:=E}
abbrev Cx.nox (X:Cx):Cx:=X.wish fun _ _=>False
theorem Cx.Ok.wish {X:Cx}(ok:X.Ok)(E:Value->Shared->Prop):(X.wish E).Ok:=
 ⟨ok.mod,ok.kind,ok.glob,ok.blt,ok.above,ok.inj,ok.has,ok.cab,ok.hd,ok.frames,ok.stk,ok.exf,ok.bs,ok.bsz,ok.noex,ok.exfs,ok.funs,ok.frf⟩
theorem Cx.Ok.unwish {X:Cx}{E:Value->Shared->Prop}(ok:(X.wish E).Ok):X.Ok:=
 ⟨ok.mod,ok.kind,ok.glob,ok.blt,ok.above,ok.inj,ok.has,ok.cab,ok.hd,ok.frames,ok.stk,ok.exf,ok.bs,ok.bsz,ok.noex,ok.exfs,ok.funs,ok.frf⟩
section
variable {X:Cx}{pins:List (Addr×Obj)}{σ:St}{H:Hp}{s:Shared}{E:Value->Shared->Prop}
theorem Inv.wish (I:Inv X pins σ H s)(E:Value->Shared->Prop):Inv (X.wish E) pins σ H s:=⟨I.ok.wish E,I.os,I.bare,I.base,I.loc,I.cell,I.free,I.freeC,I.pin,I.hok,I.len⟩
theorem Inv.unwish (I:Inv (X.wish E) pins σ H s):Inv X pins σ H s:=⟨I.ok.unwish,I.os,I.bare,I.base,I.loc,I.cell,I.free,I.freeC,I.pin,I.hok,I.len⟩
theorem SP.unwish {D:Ends}{f:Flow}{s':Shared}(h:SP (X.wish E) pins D f s'):SP X pins D f s':=by
 cases f with
 | next=>obtain ⟨σ',H',I,q⟩:=h;exact ⟨σ',H',I.unwish,q⟩
 | brk=>obtain ⟨σ',H',I,q⟩:=h;exact ⟨σ',H',I.unwish,q⟩
 | cont=>obtain ⟨σ',H',I,q⟩:=h;exact ⟨σ',H',I.unwish,q⟩
 | ret u=>obtain ⟨v,σ',H',I,r,q⟩:=h;exact ⟨v,σ',H',I.unwish,r,q⟩
theorem PSs.nox {st:List Stmt}{t:TS}(h:PSs X.nox st t):PSs X st t:=fun pins s σ H D I hw=>
 wpAny_mono (h pins s σ H D (I.wish _) hw) (fun _ _ q=>q.unwish) fun _ _ z=>False.elim z
end
section
variable {X:Cx}{st:Stmt}{rest:List Stmt}{t u:TS}{e:Expr}{te:TE}{pos:Pos}
def afw:TS:=fun D σ H=>D.nx σ H
def afE (t u:TS):TS:=fun D σ H=>t {D with nx:=u D} σ H
theorem acW:PSs X [] afw:=fun _ _ σ H _ I h=>wpAny_execs_nil ⟨σ,H,I,h⟩
theorem aaP (h1:PS X st t)(h2:PSs X rest u):PSs X (st::rest) (afE t u):=by
 intro pins s σ H D I h
 refine wpAny_execs_cons (thn (h1 pins s σ H {D with nx:=u D} I h) fun f s1 q=>?_)
 cases f with
 | next=>
  obtain ⟨σ',H',I',q⟩:=q
  exact h2 pins s1 σ' H' D I' q
 | ret v=>exact q
 | brk=>exact q
 | cont=>exact q
def aes:TS:=fun D σ H=>D.bk σ H
theorem abm:PS X (.Break pos) aes:=fun _ _ σ H _ I h=>wpAny_Break ⟨σ,H,I,h⟩
theorem Inv.quiet {pins:List (Addr×Obj)}{σ:St}{H:Hp}{s:Shared}(I:Inv X pins σ H s):interactive X.env=false:=by simp [interactive,I.ok.kind]
def afD (te:TE):TS:=fun D σ H=>te σ H fun _ H1=>D.nx σ H1
theorem kK (he:PE X e te)(hs:swapsWith e none pos.line X.env=pure false:=by rfl):PS X (.Expr e pos) (afD te):=by
 intro pins s σ H D I h
 exact wpAny_Expr_any (thn (he pins s σ H _ I h) fun v s1 ⟨x,H1,I1,r1,q1⟩=>⟨σ,H1,I1,q1⟩) I.quiet hs
def afY (te:TE):TS:=fun D σ H=>te σ H D.rt
theorem lS (he:PE X e te):PS X (.Return (some e) pos) (afY te):=by
 intro pins s σ H D I h
 exact wpAny_Return_some (thn (he pins s σ H _ I h) fun v s1 ⟨x,H1,I1,r1,q1⟩=>⟨x,σ,H1,I1,r1,q1⟩)
def aga (c:TT)(t u:TS):TS:=fun D σ H=>c σ H fun b H1=>if b=true then t D σ H1 else u D σ H1
theorem adB {c:Expr}{a b:List Stmt}{tc:TT}(hc:PT X c tc)(ha:PSs X a t)(hb:PSs X b u):PS X (.If c a b pos) (aga tc t u):=by
 intro pins s σ H D I h
 refine wpAny_If (thn (hc pins s σ H _ I h) fun d s1 ⟨H1,I1,q1⟩=>?_)
 cases d with
 | true=>exact ha pins s1 σ H1 D I1 q1
 | false=>exact hb pins s1 σ H1 D I1 q1
end
abbrev TG:=V->St->Hp->(St->Hp->Prop)->Prop
abbrev TGs:=List V->St->Hp->(St->Hp->Prop)->Prop
def PG (X:Cx)(target:Expr)(t:TG):Prop:=
 ∀ (pins:List (Addr×Obj)) (s:Shared) (σ:St) (H:Hp) (v:V) (u:Value) (Q:St->Hp->Prop),Inv X pins σ H s->bA v u->t v σ H Q->
  wpAny (model X.prog X.w) X.A (assign target X.env u) (fun _ s'=>∃ σ' H',Inv X pins σ' H' s'/\Q σ' H') X.xe s
def PGs (X:Cx)(ts:List Expr)(t:TGs):Prop:=
 ∀ (pins:List (Addr×Obj)) (s:Shared) (σ:St) (H:Hp) (vs:List V) (us:List Value) (Q:St->Hp->Prop),Inv X pins σ H s->Vals vs us->t vs σ H Q->
  wpAny (model X.prog X.w) X.A (assignInOrder ((assignEach ts X.env).map (·.2)) us) (fun _ s'=>∃ σ' H',Inv X pins σ' H' s'/\Q σ' H') X.xe s
abbrev adS:=V->V->V->Hp->(Hp->Prop)->Prop
def afd (X:Cx)(t:adS):Prop:=
 ∀ (pins:List (Addr×Obj)) (s:Shared) (σ:St) (H:Hp) (o i v:V) (ov iv u:Value) (Q:Hp->Prop),Inv X pins σ H s->bA o ov->bA i iv->bA v u->t o i v H Q->
  wpAny (model X.prog X.w) X.A (setItem ov iv u) (fun _ s'=>∃ H',Inv X pins σ H' s'/\Q H') X.xe s
abbrev TIp:=V->V->Hp->VK->Prop
def PIp (X:Cx)(op:Operator)(t:TIp):Prop:=
 ∀ (pins:List (Addr×Obj)) (s:Shared) (σ:St) (H:Hp) (x y:V) (v u:Value) (Q:VK),Inv X pins σ H s->bA x v->bA y u->t x y H Q->
  wpAny (model X.prog X.w) X.A (inplaceOp op v u) (EP X pins σ Q) X.xe s
section
variable {X:Cx}{pos:Pos}
def cH (i:Nat):TG:=fun v σ H Q=>Q (σ.set i (some v)) H
theorem bg {i:Nat}{x:Str}(hN:X.N.Nodup)(hi:X.N[i]?=some x)(hx:Loc X.env.scope x)(hf:X.fn x=true\/X.env.scope.names.lookup x=some .local:=by first | exact .inl rfl | exact .inr rfl | assumption):PG X (.Name x pos) (cH i):=by
 intro pins s σ H v u Q I r h
 exact wpAny_assign_Name (pw I hN hi hx r (fun s' I'=>⟨_,H,I',h⟩) hf)
def xu:TGs:=fun vs σ H Q=>vs=[]/\Q σ H
def hG (t:TG)(u:TGs):TGs:=fun vs σ H Q=>∃ v r,vs=v::r/\t v σ H fun σ' H'=>u r σ' H' Q
theorem gN:PGs X [] xu:=by
 intro pins s σ H vs us Q I r h
 obtain ⟨e,h⟩:=h
 subst e
 cases r
 exact assignInOrder_nil ⟨σ,H,I,h⟩
theorem bE {e:Expr}{es:List Expr}{t:TG}{u:TGs}(h1:PG X e t)(h2:PGs X es u)
  (hs:(assignEach (e::es) X.env).map (·.2)=assign e X.env::(assignEach es X.env).map (·.2):=by rfl):PGs X (e::es) (hG t u):=by
 intro pins s σ H vs us Q I r h
 obtain ⟨v,vr,e1,h⟩:=h
 subst e1
 cases r with
 | cons r rr=>
  rw [hs]
  refine assignInOrder_cons (thn (h1 pins s σ H _ _ _ I r h) fun _ s1 ⟨σ1,H1,I1,q1⟩=>?_)
  exact h2 pins s1 σ1 H1 _ _ Q I1 rr q1
def xn (K:PySem.W.Frag)(n:Nat)(t:TGs):TG:=fun v σ H Q=>∃ a xs,v=.ref a/\SqT K H a xs/\xs.length=n/\t xs σ H Q
theorem jd {es:List Expr}{k:Nat}{t:TGs}{n:Nat}(hc:X.calm=true)(h:PGs X es t)
  (hn:(assignEach es X.env).length=n:=by rfl)(hst:(assignEach es X.env).findIdx? (·.1)=none:=by rfl):PG X (.Tuple es k pos) (xn X.K n t):=by
 intro pins s σ H v u Q I r hw
 obtain ⟨a,xs,e1,hq,hl,hw⟩:=hw
 subst e1
 cases r
 obtain ⟨its,rv,ht,hz⟩:=I.tuple hq
 refine assign_Tuple_tuple (I.ok.hd hc) ht (by simp [hn,<-hl,rv.length]) hst fun h' hx=>?_
 have I1:Inv X pins σ H {s with heap:=h'}:=I.kept (t':=s.toks) fun b o e=>hx b o (Nat.ne_of_lt (Heap.lt_size e)) e
 exact h pins _ σ H xs _ Q I1 (by simpa using rv) hw
def afZ (to ti:TE)(t:adS):TG:=fun v σ H Q=>to σ H fun o H1=>ti σ H1 fun i H2=>t o i v H2 fun H3=>Q σ H3
theorem aeR {o i:Expr}{to ti:TE}{t:adS}(ho:PE X o to)(hi:PE X i ti)(hs:afd X t)
  (ha:∀ v,assign (.Subscript o i pos) X.env v=(do
   let ov <-holding [v] (eval o X.env)
   let iv <-holding [v,ov] (eval i X.env)
   standAt pos
   holding [v,ov,iv] (setItem ov iv v)
   release [v,ov,iv] []):=by intro _;rfl):PG X (.Subscript o i pos) (afZ to ti t):=by
 intro pins s σ H v u Q I r h
 rw [ha]
 refine wpAny_bind (wpAny_holding (thn (ho pins s σ H _ I h) fun ov s1 ⟨x,H1,I1,r1,q1⟩=>?_))
 refine wpAny_bind (wpAny_holding (thn (hi pins s1 σ H1 _ I1 q1) fun iv s2 ⟨y,H2,I2,r2,q2⟩=>?_))
 refine wpAny_bind (wpAny_standAt (wpAny_bind (wpAny_holding (thn (hs pins s2 σ H2 x y v ov iv u _ I2 r1 r2 r q2) fun _ s3 ⟨H3,I3,q3⟩=>?_))))
 exact wpAny_release ⟨σ,H3,I3,q3⟩
def aev (te:TE)(g:TG):TS:=fun D σ H=>te σ H fun x H1=>g x σ H1 D.nx
theorem aek {tg e:Expr}{te:TE}{g:TG}(he:PE X e te)(hg:PG X tg g)(hs:swapsWithSole [tg] e pos.line X.env=pure false:=by rfl)(hw:swappedStores [tg] e X.env=pure none:=by rfl)
  (h1:(assignEach [tg] X.env).map (·.2)=[assign tg X.env]:=by rfl):PS X (.Assign [tg] e pos) (aev te g):=by
 intro pins s σ H D I h
 refine wpAny_Assign_stores (thn (he pins s σ H _ I h) fun v s1 ⟨x,H1,I1,r1,q1⟩=>?_) hs hw
 rw [h1]
 exact thn (hg pins s1 σ H1 x v _ I1 r1 q1) fun _ s2 q=>q
theorem pF {i:Nat}{x:Str}{e:Expr}{te:TE}{pos':Pos}(hN:X.N.Nodup)(hi:X.N[i]?=some x)(hx:Loc X.env.scope x)(he:PE X e te)(hs:swapsWith e (some (.Name x pos')) pos.line X.env=pure false:=by rfl)(hf:X.fn x=true\/X.env.scope.names.lookup x=some .local:=by first | exact .inl rfl | exact .inr rfl | assumption):
  PS X (.Assign [.Name x pos'] e pos) (aev te (cH i)):=by
 intro pins s σ H D I h
 refine wpAny_Assign_Name (thn (he pins s σ H _ I h) fun v s1 ⟨y,H1,I1,r1,q1⟩=>?_) hs
 exact pw I1 hN hi hx r1 (fun s2 I2=>⟨_,H1,I2,q1⟩) hf
def afW (i:Nat)(te:TE)(ti:TIp):TS:=fun D σ H=>∃ x,σ[i]?=some (some x)/\te σ H fun y H1=>ti x y H1 fun z H2=>D.nx (σ.set i (some z)) H2
theorem aeO {i:Nat}{x:Str}{e:Expr}{te:TE}{op:Operator}{ti:TIp}{pos':Pos}(hN:X.N.Nodup)(hi:X.N[i]?=some x)(hx:Loc X.env.scope x)(he:PE X e te)(ho:PIp X op ti)(hf:X.fn x=true\/X.env.scope.names.lookup x=some .local:=by first | exact .inl rfl | exact .inr rfl | assumption):
  PS X (.AugAssign (.Name x pos') op e pos) (afW i te ti):=by
 intro pins s σ H D I h
 obtain ⟨v,e1,h⟩:=h
 obtain ⟨m,hn,hl⟩:=I.loc
 have vis:Vis X.env.scope x:=by rcases hx with k | k;exact .inl k;exact .inr (.inl k)
 obtain ⟨u,r,l⟩:=hl i x v hi e1 vis
 refine wpAny_AugAssign_Name ?_
 have go:wpAny (model X.prog X.w) X.A (eval e X.env) (fun w s₂=>wpAny (model X.prog X.w) X.A (inplaceOp op u w) (fun r s₃=>wpAny (model X.prog X.w) X.A (storeName X.env x r) (fun _=>SP X pins D .next) X.xe s₃) X.xe s₂) X.xe s:=by
  refine thn (he pins s σ H _ I h) fun w s1 ⟨y,H1,I1,r1,q1⟩=>?_
  refine thn (ho pins s1 σ H1 v y u w _ I1 r r1 q1) fun z s2 ⟨zv,H2,I2,r2,q2⟩=>?_
  exact pw I2 hN hi hx r2 (fun s3 I3=>⟨_,H2,I3,q2⟩) hf
 rcases l with ⟨hk,hm⟩ | ⟨hk,c,hc,hcell⟩
 ·exact wpAny_loadName_local I.ok.kind hk hn hm go
 ·rcases hk with hk | hk
  ·exact wpAny_loadName_cell I.ok.kind hk hc hcell go
  ·rcases hx with k | k
   ·have:X.env.scope.names.lookup x=some .free:=hk
    rw [k] at this;cases this
   ·have:X.env.scope.names.lookup x=some .free:=hk
    rw [k] at this;cases this
def ipI (f:Int->Int->Int):TIp:=fun x y H Q=>∃ i j,x=.int i/\y=.int j/\Q (.int (f i j)) H
theorem aat:PIp X .Add (ipI fun i j=>i+j):=by
 intro pins s σ H x y v u Q I r1 r2 h
 obtain ⟨i,j,e1,e2,q⟩:=h
 subst e1;subst e2
 obtain ⟨t,rfl⟩:=r1
 obtain ⟨t',rfl⟩:=r2
 exact iadd_int ⟨.int _,H,I.tok _,⟨_,rfl⟩,q⟩
theorem aeu:PIp X .Sub (ipI fun i j=>i - j):=by
 intro pins s σ H x y v u Q I r1 r2 h
 obtain ⟨i,j,e1,e2,q⟩:=h
 subst e1;subst e2
 obtain ⟨t,rfl⟩:=r1
 obtain ⟨t',rfl⟩:=r2
 exact isub_int ⟨.int _,H,I.tok _,⟨_,rfl⟩,q⟩
end
section
variable {X:Cx}{pos:Pos}
def adY (c:TT)(tb:TS):TS:=fun D σ H=>∃ W:Nat->St->Hp->Prop,(∃ m,W m σ H)/\∀ m σ H,W m σ H->
 c σ H fun b H1=>if b=true then ∃ N:St->Hp->Prop,(∀ σ' H',N σ' H'->∃ m',m' < m/\W m' σ' H')/\tb {D with nx:=N,ct:=N,bk:=D.nx} σ H1 else D.nx σ H1
theorem ab1 {c:Expr}{body:List Stmt}{tc:TT}{tb:TS}(hp:PassesOwn (model X.prog X.w) X.A X.env X.xe)(hc:PT X c tc)(hb:PSs X body tb):PS X (.While c body [] pos) (adY tc tb):=by
 intro pins s σ H D I h
 obtain ⟨W,⟨m0,w0⟩,turn⟩:=h
 refine wpAny_While (codeAny_whileLoop (fun n s'=>∃ σ' H',Inv X pins σ' H' s'/\W n σ' H') ?_ m0 ⟨σ,H,I,w0⟩)
 rintro n s1 ⟨σ1,H1,I1,w1⟩
 refine wpAny_passesOwn hp (thn (hc pins s1 σ1 H1 _ I1 (turn n σ1 H1 w1)) fun b s2 ⟨H2,I2,q2⟩=>?_)
 cases b with
 | true=>
  obtain ⟨N,hN,q2⟩:=q2
  rw [if_pos rfl]
  refine wpAny_passesOwn hp (thn (hb pins s2 σ1 H2 _ I2 q2) fun f s3 q3=>?_)
  cases f with
  | next=>
   obtain ⟨σ3,H3,I3,n3⟩:=q3
   obtain ⟨m',hm,w3⟩:=hN σ3 H3 n3
   exact ⟨m',hm,σ3,H3,I3,w3⟩
  | cont=>
   obtain ⟨σ3,H3,I3,n3⟩:=q3
   obtain ⟨m',hm,w3⟩:=hN σ3 H3 n3
   exact ⟨m',hm,σ3,H3,I3,w3⟩
  | brk=>exact q3
  | ret v=>exact q3
 | false=>
  rw [if_neg Bool.false_ne_true]
  exact wpAny_execs_nil ⟨σ1,H2,I2,q2⟩
end
structure It where
 go:Nat->Hp->Prop
 yld:Nat->Hp->V->Hp->Prop
 stop:Nat->Hp->Prop
def nw (X:Cx)(pins:List (Addr×Obj))(H:Hp)(b:Addr):Prop:=
 H b=none/\b≠X.env.locals/\b ∉ X.fs/\(b∈X.ex\/X.s_0.heap.objs.size<=b)/\(∀ x c,X.env.cells.lookup x=some c->c≠b)/\∀ p∈X.pn++pins,p.1≠b
theorem Inv.fpOk {X:Cx}{pins:List (Addr×Obj)}{σ:St}{H H':Hp}{s:Shared}{b:Addr}(I:Inv X pins σ H s)(hb:s.heap.objs.size<=b)(hn:H' b=none):nw X pins H' b:=by
 refine ⟨hn,Nat.ne_of_gt (Nat.lt_of_lt_of_le I.lt hb),I.nofs hb,.inr (Nat.le_trans I.sz hb),fun x c e z=>?_,fun p hp z=>?_⟩
 ·obtain ⟨v,q⟩:=I.cell x c e
  exact absurd (Nat.lt_of_lt_of_le q.lt (by rw [z];exact hb)) (Nat.lt_irrefl _)
 ·exact absurd (Nat.lt_of_lt_of_le (Heap.lt_size (I.pin p hp).1) (by rw [z];exact hb)) (Nat.lt_irrefl _)
structure Turn (P:Program)(w:World)(K:PySem.W.Frag)(tg:Expr)(J:It)(fp:List Addr)(it:Addr)(tn:Nat->Heap->Prop):Prop where
 mem:it∈fp
 obj:∀ i h,tn i h->∀ b∈fp,∃ o,h.get? b=some o/\∀ v,o.data≠.cell v
 keep:∀ i h h',tn i h->(∀ b∈fp,∀ o,h.get? b=some o->h'.get? b=some o)->tn i h'
 item:∀ (X:Cx),X.prog=P->X.w=w->X.K=K->X.calm=true->∀ (i:Nat) (pins:List (Addr×Obj)) (s:Shared) (σ:St) (H:Hp) (E:Value->Shared->Prop),Inv X pins σ H s->(∀ b∈fp,nw X pins H b)->tn i s.heap->J.go i H->
  wpAny (model P w) X.A (pyNext (.ref it)) (fun r s1=>∃ u,r=some u/\
   wpAny (model P w) X.A (letOwnedTupleGo tg (.ref it) u) (fun _ s2=>∃ x H',Inv X pins σ H' s2/\bA x u/\J.yld i H x H'/\tn (i+1) s2.heap/\∀ b∈fp,H' b=none) E s1) E s
 done:∀ (X:Cx),X.prog=P->X.w=w->X.K=K->X.calm=true->∀ (i:Nat) (pins:List (Addr×Obj)) (s:Shared) (σ:St) (H:Hp) (E:Value->Shared->Prop),Inv X pins σ H s->(∀ b∈fp,nw X pins H b)->tn i s.heap->J.stop i H->
  wpAny (model P w) X.A (pyNext (.ref it)) (fun r s1=>r=none/\Inv X pins σ H s1) E s
 self:∀ (A:Around) (i:Nat) (s:Shared) (Q:Value->Shared->Prop) (E:Value->Shared->Prop),tn i s.heap->Q (.ref it) s->wpAny (model P w) A (pyIter (.ref it)) Q E s
abbrev TI:=St->Hp->(It->Hp->Prop)->Prop
def PIE (X:Cx)(pins:List (Addr×Obj))(σ:St)(tg:Expr)(R:It->Hp->Prop)(itv:Value)(s2:Shared):Prop:=
 ∃ (it:Addr) (fp:List Addr) (tn:Nat->Heap->Prop) (J:It) (H':Hp),itv=.ref it/\Inv X pins σ H' s2/\Turn X.prog X.w X.K tg J fp it tn/\tn 0 s2.heap/\(∀ b∈fp,nw X pins H' b)/\R J H'
def PI (X:Cx)(tg iter:Expr)(wi:TI):Prop:=
 ∀ (pins:List (Addr×Obj)) (s:Shared) (σ:St) (H:Hp) (R:It->Hp->Prop),Inv X pins σ H s->wi σ H R->
  wpAny (model X.prog X.w) X.A (eval iter X.env) (fun v s1=>wpAny (model X.prog X.w) X.A (pyIter v) (PIE X pins σ tg R) X.xe s1) X.xe s
theorem abt {M:Model}{A:Around}{E:Value->Shared->Prop}{s:Shared}{tg:Expr}{it:Addr}{u:Value}{o:Obj}{n:String}{vs:Array Value}{Q:Unit->Shared->Prop}(ho:s.heap.get? it=some o)(hc:o.cls=.type n)(hd:o.data=.fields vs)
  (hn:["enumerate","zip","dict_itemiterator","dict_reverseitemiterator","odict_iterator","itertools.zip_longest","itertools.pairwise"].contains n=false)(hQ:Q () s):wpAny M A (letOwnedTupleGo tg (.ref it) u) Q E s:=by
 unfold letOwnedTupleGo
 cases tg<;>first
  | exact wpAny_pure hQ
  | (cases u<;>first
    | exact wpAny_pure hQ
    | (refine wpAny_bind (wpAny_load ho ?_)
       rw [hc,hd]
       show wpAny M A (if (["enumerate","zip","dict_itemiterator","dict_reverseitemiterator","odict_iterator","itertools.zip_longest","itertools.pairwise"].contains n&&vs[0]? == some (rawInt _))=true then _ else _) Q E s
       rw [if_neg (by intro h;rw [hn,Bool.false_and] at h;cases h)]
       exact wpAny_pure hQ))
def Itl (K:PySem.W.Frag)(a:Addr):It:=
 ⟨fun i H=>∃ xs x,SqL K H a xs/\xs[i]?=some x,fun i H x H'=>H'=H/\∀ xs,SqL K H a xs->xs[i]?=some x,fun i H=>∃ xs,SqL K H a xs/\xs.length<=i⟩
def Itr (lo:Int)(n:Nat):It:=⟨fun i _=>i < n,fun i H x H'=>H'=H/\x=.int (lo+i),fun i _=>n<=i⟩
theorem zr {P:Program}{w:World}{K:PySem.W.Frag}{tg:Expr}(a it:Addr):Turn P w K tg (Itl K a) [it] it (fun i h=>h.IsListIter it a i) where
 mem:=by simp
 obj:=fun i h st b hb=>by
  have e:b=it:=by simpa using hb
  subst e
  obtain ⟨o,e,c,d⟩:=st
  exact ⟨o,e,fun v z=>by rw [d] at z;cases z⟩
 keep:=fun i h h' st k=>st.at fun o e=>k it (by simp) o e
 item:=by
  intro X hP hw hK hc i pins s σ H E I hf st hg
  subst hP hw hK
  obtain ⟨xs,x,hq,hx⟩:=hg
  obtain ⟨its,rv,p,hz⟩:=I.list hq
  obtain ⟨u,hu,ru⟩:=rv.get hx
  obtain ⟨f0,f1,f2,f3,f4,f5⟩:=hf it (by simp)
  refine wpAny_pyNext_list_item st p.isList (x:=u) (by simpa using hu) fun h' st' sb=>?_
  have I1:Inv X pins σ H {s with heap:=h'}:=I.turned (t':=s.toks) (fun b o hb e=>(sb.2 b hb).trans e) f0 f1 f3 f4 f5
  obtain ⟨o,e,c,d⟩:=id st'
  exact ⟨u,rfl,abt (s:={s with heap:=h'}) e c d (by decide) ⟨x,H,I1,ru,⟨rfl,fun ys hy=>by rw [I.list_inj hy hq];exact hx⟩,st',fun b hb=>(hf b hb).1⟩⟩
 done:=by
  intro X hP hw hK hc i pins s σ H E I hf st hg
  subst hP hw hK
  obtain ⟨xs,hq,hx⟩:=hg
  obtain ⟨its,rv,p,hz⟩:=I.list hq
  obtain ⟨f0,f1,f2,f3,f4,f5⟩:=hf it (by simp)
  have hl:=rv.length
  exact wpAny_pyNext_list_end (I.ok.hd hc) st p.isList (by simp;omega) fun h' eb=>⟨rfl,I.turned (t':=s.toks) (fun b o hb e=>eb b o hb e) f0 f1 f3 f4 f5⟩
 self:=fun _ _ _ _ _ st h=>wpAny_pyIter_listiter st h
theorem wN {P:Program}{w:World}{K:PySem.W.Frag}{tg:Expr}(it:Addr)(lo:Int)(n:Nat):Turn P w K tg (Itr lo n) [it] it (fun i h=>IsRangeIter h it (lo+(i:Nat) * 1) ((n:Int) - (i:Nat)) 1) where
 mem:=by simp
 obj:=fun i h st b hb=>by
  have e:b=it:=by simpa using hb
  subst e
  exact ⟨_,st,fun v z=>by
   have z':Data.fields _=Data.cell v:=z
   cases z'⟩
 keep:=fun i h h' st k=>k it (by simp) _ st
 item:=by
  intro X hP hw hK hc i pins s σ H E I hf st hg
  subst hP hw hK
  obtain ⟨f0,f1,f2,f3,f4,f5⟩:=hf it (by simp)
  have W:=Walks.range (prog:=X.prog) (w:=X.w) (I.ok.hd hc) it lo 1 n
  refine W.item i s _ _ hg st fun v h' tk hv st' kk=>?_
  obtain ⟨t,rfl⟩:=hv
  have I1:Inv X pins σ H {s with heap:=h',toks:=tk}:=I.turned (fun b o hb e=>kk b o (by simpa using hb) e) f0 f1 f3 f4 f5
  refine ⟨_,rfl,abt (s:={s with heap:=h',toks:=tk}) (n:="range_iterator") st' rfl rfl (by decide) ⟨.int (lo+i),H,I1,⟨t,?_⟩,⟨rfl,rfl⟩,st',fun b hb=>(hf b hb).1⟩⟩
  rw [Int.mul_one]
 done:=by
  intro X hP hw hK hc i pins s σ H E I hf st hg
  subst hP hw hK
  obtain ⟨f0,f1,f2,f3,f4,f5⟩:=hf it (by simp)
  exact wpAny_pyNext_range_end (I.ok.hd hc) st (by have:n<=i:=hg;omega) fun h' eb=>⟨rfl,I.turned (t':=s.toks) (fun b o hb e=>eb b o hb e) f0 f1 f3 f4 f5⟩
 self:=fun _ _ _ _ _ st h=>wpAny_pyIter_rangeiter st h
end L2
namespace L2
open PySem PySem.Spec PyProof.Rows
section
variable {X:Cx}{tg:Expr}
def afc (K:PySem.W.Frag)(tl:TE):TI:=fun σ H R=>tl σ H fun x H1=>∃ a,x=.ref a/\(∃ xs,SqL K H1 a xs)/\R (Itl K a) H1
theorem tP {l:Expr}{tl:TE}(hl:PE X l tl):PI X tg l (afc X.K tl):=by
 intro pins s σ H R I h
 refine thn (hl pins s σ H _ I h) fun v s1 ⟨x,H1,I1,r1,q1⟩=>?_
 obtain ⟨a,e,⟨xs,hq⟩,q⟩:=q1
 subst e
 cases r1
 obtain ⟨its,rv,p,hz⟩:=I1.list hq
 refine wpAny_pyIter_list p.isList ?_
 refine ⟨s1.heap.objs.size,[s1.heap.objs.size],_,_,H1,rfl,I1.kept (t':=s1.toks) fun b o e=>Heap.get?_push_of_some _ e,zr a _,⟨_,Heap.get?_push_size _ rfl,rfl,rfl⟩,fun b hb=>?_,q⟩
 have e:b=s1.heap.objs.size:=by simpa using hb
 subst e
 exact I1.fpOk (Nat.le_refl _) (I1.hok.fresh (Nat.le_refl _))
theorem abV {pins:List (Addr×Obj)}{σ:St}{H:Hp}{s:Shared}{R:It->Hp->Prop}{E:Value->Shared->Prop}{lo hi:Int}{t u v:Tok}{tk:Nat}(I:Inv X pins σ H s)(h1:-(2 ^ 62)<=lo)(h2:lo < 2 ^ 62)(h3:-(2 ^ 62)<=hi)(h4:hi < 2 ^ 62)
  (q:R (Itr lo (hi - lo).toNat) H):wpAny (model X.prog X.w) X.A (pyIter (.ref s.heap.objs.size)) (PIE X pins σ tg R) E {s with heap:=s.heap.push {cls:=.type "range",data:=.fields #[.int lo t,.int hi u,.int 1 v]},toks:=tk}:=by
 refine wpAny_pyIter_range (IsRange.new ..) (small_one h1 h2 h3 h4) ?_
 have I1:Inv X pins σ H {s with heap:=s.heap.push {cls:=.type "range",data:=.fields #[.int lo t,.int hi u,.int 1 v]},toks:=tk}:=I.kept fun b o e=>Heap.get?_push_of_some _ e
 refine ⟨(s.heap.push {cls:=.type "range",data:=.fields #[.int lo t,.int hi u,.int 1 v]}).objs.size,[(s.heap.push {cls:=.type "range",data:=.fields #[.int lo t,.int hi u,.int 1 v]}).objs.size],_,_,H,rfl,
  I1.kept (t':=tk) fun b o e=>Heap.get?_push_of_some _ e,wN _ lo (hi - lo).toNat,?_,fun b hb=>?_,q⟩
 ·have e1:lo+((0:Nat):Int) * 1=lo:=by simp
  have e2:(((hi - lo).toNat:Nat):Int) - ((0:Nat):Int)=Builtin.Range.rangeSize lo hi 1:=by rw [rangeSize_one];split<;>omega
  show IsRangeIter _ _ (lo+((0:Nat):Int) * 1) ((((hi - lo).toNat:Nat):Int) - ((0:Nat):Int)) 1
  rw [e1,e2]
  exact Heap.get?_push_size _ rfl
 ·have e:b=(s.heap.push {cls:=.type "range",data:=.fields #[.int lo t,.int hi u,.int 1 v]}).objs.size:=by simpa using hb
  subst e
  exact I1.fpOk (Nat.le_refl _) (I1.hok.fresh (Nat.le_refl _))
def afh (ta:TA):TI:=fun σ H R=>ta σ H fun vs H1=>∃ i j:Int,vs=[.int i,.int j]/\(-(2 ^ 62)<=i/\i < 2 ^ 62/\-(2 ^ 62)<=j/\j < 2 ^ 62)/\R (Itr i (j - i).toNat) H1
theorem zB {a b:Expr}{ta:TA}{p pos:Pos}(hg:Gl X "range")(hm:X.mg "range"=none)(ha:PA X [a,b] ta)(hs:starEach [a,b] X.env=[(false,eval a X.env),(false,eval b X.env)]:=by rfl)(hs2:starEach [b] X.env=[(false,eval b X.env)]:=by rfl):
  PI X tg (.Call (.Name "range" p) [a,b] [] pos) (afh ta):=by
 intro pins s σ H R I h
 refine Call_ (mO I hg hm boot_range (PyProof.Rows.callWith_type1 (thn (ha pos pins s σ H _ I h) fun us s1 ⟨vs,H1,I1,r1,q1⟩=>?_) (by rw [hs,hs2]) (by rw [hs2];rfl)))
 obtain ⟨i,j,e,⟨q1,q2,q3,q4⟩,q⟩:=q1
 subst e
 cases r1 with
 | cons r rr=>
  cases rr with
  | cons r' rr=>
   cases rr
   obtain ⟨t,rfl⟩:=r
   obtain ⟨t',rfl⟩:=r'
   exact call_range_2 (abV I1 q1 q2 q3 q4 q)
def agd (wi:TI)(g:TG)(tb:TS):TS:=fun D σ H=>wi σ H fun J H1=>∃ W:Nat->Nat->St->Hp->Prop,(∃ m,W 0 m σ H1)/\∀ i m σ H,W i m σ H->
 (J.stop i H/\D.nx σ H)\/(J.go i H/\∃ N:St->Hp->Prop,(∀ σ' H',N σ' H'->∃ m',m' < m/\W (i+1) m' σ' H')/\∀ x H',J.yld i H x H'->g x σ H' fun σ2 H2=>tb {D with nx:=N,ct:=N,bk:=D.nx} σ2 H2)
def pY (fp:List Addr)(h:Heap):List (Addr×Obj):=fp.filterMap fun b=>(h.get? b).map fun o=>(b,o)
theorem kb {fp:List Addr}{h:Heap}{b:Addr}{o:Obj}(hb:b∈fp)(e:h.get? b=some o):(b,o)∈pY fp h:=List.mem_filterMap.mpr ⟨b,hb,by rw [e];rfl⟩
theorem zX {fp:List Addr}{h:Heap}{p:Addr×Obj}(hp:p∈pY fp h):p.1∈fp/\h.get? p.1=some p.2:=by
 obtain ⟨b,hb,e⟩:=List.mem_filterMap.mp hp
 cases q:h.get? b with
 | none=>rw [q] at e;cases e
 | some o=>
  rw [q] at e
  have e':(b,o)=p:=Option.some.inj e
  subst e'
  exact ⟨hb,q⟩
theorem Inv.pinned {pins:List (Addr×Obj)}{σ:St}{H:Hp}{s:Shared}{fp:List Addr}(I:Inv X pins σ H s)(hf:∀ b∈fp,nw X pins H b)(ho:∀ b∈fp,∃ o,s.heap.get? b=some o/\∀ v,o.data≠.cell v):Inv X (pins++pY fp s.heap) σ H s:=
 I.pins_of fun p hp=>(List.mem_append.mp hp).elim (fun z=>I.pin p (List.mem_append_right _ z)) fun z=>by
  obtain ⟨hb,e⟩:=zX z
  obtain ⟨f0,f1,f2,_⟩:=hf p.1 hb
  obtain ⟨o,e',d⟩:=ho p.1 hb
  rw [e] at e';cases e'
  exact ⟨e,f0,f1,f2,d⟩
theorem Inv.unpinned {pins pl:List (Addr×Obj)}{σ:St}{H:Hp}{s:Shared}(I:Inv X (pins++pl) σ H s):Inv X pins σ H s:=I.pins_of fun p hp=>I.pin p (List.mem_append_right _ (List.mem_append_left _ hp))
theorem aeB {iter:Expr}{body:List Stmt}{wi:TI}{g:TG}{tb:TS}{pos:Pos}(hp:PassesOwn (model X.prog X.w) X.A X.env X.xe)(hc:X.calm=true)(hi:PI X tg iter wi)(hg:PG X tg g)(hb:PSs X body tb)
  (hs:∀ x,foldedSetIterable iter X.env x=pure x:=by intro _;rfl):PS X (.For tg iter body [] pos) (agd wi g tb):=by
 intro pins s σ H D I h
 refine wpAny_For (thn (hi pins s σ H _ I h) fun v s1 h1=>thn h1 fun itv s2 h2=>?_) hs
 obtain ⟨it,fp,tn,J,H2,e,I2,T,st2,f2,W,⟨m0,w0⟩,turn⟩:=h2
 subst e
 have stat:∀ {H':Hp},(∀ b∈fp,H' b=none)->∀ b∈fp,nw X pins H' b:=fun hn b hb=>⟨hn b hb,(f2 b hb).2⟩
 refine codeAny_forLoop_any (fun n s'=>∃ i σ' H',Inv X pins σ' H' s'/\tn i s'.heap/\(∀ b∈fp,H' b=none)/\W i n σ' H') ?_ m0 ⟨0,σ,H2,I2,st2,fun b hb=>(f2 b hb).1,w0⟩
 rintro n s3 ⟨i,σ3,H3,I3,st3,fr3,w3⟩
 rcases turn i n σ3 H3 w3 with ⟨stop,qn⟩ | ⟨go,N,hN,step⟩
 ·refine wpAny_passesOwn hp (thn (T.done X rfl rfl rfl hc i pins s3 σ3 H3 X.xe I3 (stat fr3) st3 stop) fun r s4 ⟨hr,I4⟩=>?_)
  subst hr
  exact wpAny_execs_nil ⟨σ3,H3,I4,qn⟩
 ·refine wpAny_passesOwn hp (thn (T.item X rfl rfl rfl hc i pins s3 σ3 H3 X.xe I3 (stat fr3) st3 go) fun r s4 ⟨u,hr,h4⟩=>?_)
  subst hr
  refine wpAny_passesOwn hp (thn h4 fun _ s5 ⟨x,H5,I5,r5,y5,st5,fr5⟩=>?_)
  have I5':=I5.pinned (stat fr5) (T.obj _ _ st5)
  refine wpAny_passesOwn hp (thn (hg _ s5 σ3 H5 x u _ I5' r5 (step x H5 y5)) fun _ s6 ⟨σ6,H6,I6,q6⟩=>?_)
  refine wpAny_passesOwn hp (thn (hb _ s6 σ6 H6 _ I6 q6) fun f s7 q7=>?_)
  have again:∀ {σ7:St} {H7:Hp},Inv X (pins++pY fp s5.heap) σ7 H7 s7->N σ7 H7->∃ m,m < n/\∃ i σ' H',Inv X pins σ' H' s7/\tn i s7.heap/\(∀ b∈fp,H' b=none)/\W i m σ' H':=fun {σ7 H7} I7 n7=>by
   obtain ⟨m',hm,w7⟩:=hN σ7 H7 n7
   refine ⟨m',hm,i+1,σ7,H7,I7.unpinned,T.keep _ _ _ st5 fun b hb o e=>(I7.pin (b,o) (List.mem_append_right _ (List.mem_append_right _ (kb hb e)))).1,fun b hb=>?_,w7⟩
   obtain ⟨o,e,d⟩:=T.obj _ _ st5 b hb
   exact (I7.pin (b,o) (List.mem_append_right _ (List.mem_append_right _ (kb hb e)))).2.1
  cases f with
  | next=>obtain ⟨σ7,H7,I7,n7⟩:=q7;exact again I7 n7
  | cont=>obtain ⟨σ7,H7,I7,n7⟩:=q7;exact again I7 n7
  | brk=>obtain ⟨σ7,H7,I7,q7⟩:=q7;exact ⟨σ7,H7,I7.unpinned,q7⟩
  | ret v=>obtain ⟨x7,σ7,H7,I7,r7,q7⟩:=q7;exact ⟨x7,σ7,H7,I7.unpinned,r7,q7⟩
end
end L2
namespace L2
open PySem PySem.Spec PyProof.Rows
abbrev R2:=V->V->Hp->VK->Prop
def OpR (X:Cx)(f:Value->Value->Sem Value)(r:R2):Prop:=
 ∀ (pins:List (Addr×Obj)) (s:Shared) (σ:St) (H:Hp) (x y:V) (v u:Value) (Q:VK),Inv X pins σ H s->bA x v->bA y u->r x y H Q->
  wpAny (model X.prog X.w) X.A (f v u) (EP X pins σ Q) X.xe s
def UnR (X:Cx)(f:Value->Sem Value)(r:V->Hp->VK->Prop):Prop:=
 ∀ (pins:List (Addr×Obj)) (s:Shared) (σ:St) (H:Hp) (x:V) (v:Value) (Q:VK),Inv X pins σ H s->bA x v->r x H Q->
  wpAny (model X.prog X.w) X.A (f v) (EP X pins σ Q) X.xe s
def j3 (X:Cx)(f:Value)(r:List V->Hp->VK->Prop):Prop:=
 ∀ (pins:List (Addr×Obj)) (s:Shared) (σ:St) (H:Hp) (xs:List V) (us:List Value) (Q:VK),Inv X pins σ H s->Vals xs us->r xs H Q->
  wpAny (model X.prog X.w) X.A (call f us) (EP X pins σ Q) X.xe s
def agb (X:Cx)(r:V->Hp->(Bool->Hp->Prop)->Prop):Prop:=
 ∀ (pins:List (Addr×Obj)) (s:Shared) (σ:St) (H:Hp) (x:V) (v:Value) (Q:Bool->Hp->Prop),Inv X pins σ H s->bA x v->r x H Q->
  wpAny (model X.prog X.w) X.A (truthy v) (TP X pins σ Q) X.xe s
def tOp (r:R2)(ta tb:TE):TE:=fun σ H Q=>ta σ H fun x H1=>tb σ H1 fun y H2=>r x y H2 Q
def tUn (r:V->Hp->VK->Prop)(ta:TE):TE:=fun σ H Q=>ta σ H fun x H1=>r x H1 Q
def rI (C:Int->Int->Prop)(g:Int->Int->V):R2:=fun x y H Q=>∃ i j,x=.int i/\y=.int j/\C i j/\Q (g i j) H
def rI0 (g:Int->Int->V):R2:=fun x y H Q=>∃ i j,x=.int i/\y=.int j/\Q (g i j) H
def rU (g:Int->V):V->Hp->VK->Prop:=fun x H Q=>∃ i,x=.int i/\Q (g i) H
section
variable {X:Cx}{a b c:Expr}{ta tb tc:TE}{pos:Pos}
theorem aeq (ha:PE X a ta)(hb:PE X b tb){pins:List (Addr×Obj)}{s:Shared}{σ:St}{H:Hp}{R:V->V->Hp->Prop}(I:Inv X pins σ H s)
  (h:ta σ H fun x H1=>tb σ H1 fun y H2=>R x y H2){Q:Value->Shared->Prop}{f:Value->Value->Sem Value}
  (hf:∀ v u s2 x y H2,Inv X pins σ H2 s2->bA x v->bA y u->R x y H2->wpAny (model X.prog X.w) X.A (f v u) Q X.xe s2):
  wpAny (model X.prog X.w) X.A (eval a X.env) (fun v s₁=>wpAny (model X.prog X.w) X.A (eval b X.env) (fun u s₂=>wpAny (model X.prog X.w) X.A (f v u) Q X.xe s₂) X.xe s₁) X.xe s:=by
 refine thn (ha pins s σ H _ I h) fun v s1 ⟨x,H1,I1,r1,q1⟩=>?_
 refine thn (hb pins s1 σ H1 _ I1 q1) fun u s2 ⟨y,H2,I2,r2,q2⟩=>?_
 exact hf v u s2 x y H2 I2 r1 r2 q2
theorem uS {op:Operator}{r:R2}(ho:OpR X (binaryOp op) r)(ha:PE X a ta)(hb:PE X b tb):PE X (.BinOp a op b pos) (tOp r ta tb):=by
 intro pins s σ H Q I h
 exact wpAny_BinOp (aeq ha hb I h fun v u s2 x y H2 I2 rx ry q=>ho pins s2 σ H2 x y v u Q I2 rx ry q)
theorem afB {op:UnaryOp}{r:V->Hp->VK->Prop}(ho:UnR X (unaryOp op) r)(ha:PE X a ta):PE X (.UnaryOp op a pos) (tUn r ta):=by
 intro pins s σ H Q I h
 exact UnaryOp_ (thn (ha pins s σ H _ I h) fun v s1 ⟨x,H1,I1,r1,q1⟩=>ho pins s1 σ H1 x v Q I1 r1 q1)
theorem opI {f:Value->Value->Sem Value}{C:Int->Int->Prop}{g:Int->Int->Int}
  (rule:∀ (i j:Int) (t u:Tok) (s:Shared) (Q:Value->Shared->Prop) (E:Value->Shared->Prop),C i j->Q (.int (g i j) s.toks) {s with toks:=s.toks+1}->wpAny (model X.prog X.w) X.A (f (.int i t) (.int j u)) Q E s):
  OpR X f (rI C fun i j=>.int (g i j)):=by
 intro pins s σ H x y v u Q I rx ry h
 obtain ⟨i,j,rfl,rfl,hc,q⟩:=h
 obtain ⟨t,rfl⟩:=rx
 obtain ⟨t',rfl⟩:=ry
 exact rule i j t t' s _ _ hc ⟨.int (g i j),H,I.tok _,⟨_,rfl⟩,q⟩
theorem afy {f:Value->Value->Sem Value}{g:Int->Int->Int}
  (rule:∀ (i j:Int) (t u:Tok) (s:Shared) (Q:Value->Shared->Prop) (E:Value->Shared->Prop),Q (.int (g i j) s.toks) {s with toks:=s.toks+1}->wpAny (model X.prog X.w) X.A (f (.int i t) (.int j u)) Q E s):
  OpR X f (rI0 fun i j=>.int (g i j)):=by
 intro pins s σ H x y v u Q I rx ry h
 obtain ⟨i,j,rfl,rfl,q⟩:=h
 obtain ⟨t,rfl⟩:=rx
 obtain ⟨t',rfl⟩:=ry
 exact rule i j t t' s _ _ ⟨.int (g i j),H,I.tok _,⟨_,rfl⟩,q⟩
theorem acx {f:Value->Value->Sem Value}{g:Int->Int->Bool}
  (rule:∀ (i j:Int) (t u:Tok) (s:Shared) (Q:Value->Shared->Prop) (E:Value->Shared->Prop),Q (.bool (g i j)) s->wpAny (model X.prog X.w) X.A (f (.int i t) (.int j u)) Q E s):
  OpR X f (rI0 fun i j=>.bl (g i j)):=by
 intro pins s σ H x y v u Q I rx ry h
 obtain ⟨i,j,rfl,rfl,q⟩:=h
 obtain ⟨t,rfl⟩:=rx
 obtain ⟨t',rfl⟩:=ry
 exact rule i j t t' s _ _ ⟨.bl (g i j),H,I,rfl,q⟩
def afl (i j:Int):Prop:=0 < j/\j < 1073741824
def ada (i j:Int):Prop:=(-(2 ^ 64) < i/\i < 2 ^ 64)\/(-(2 ^ 64) < j/\j < 2 ^ 64)
theorem ada.ok {i j:Int}(h:ada i j):IntMulOk i j:=by
 rcases h with ⟨h1,h2⟩ | ⟨h1,h2⟩
 ·exact .of_left (intBits_le_64 h1 h2)
 ·exact .of_right (intBits_le_64 h1 h2)
theorem ad3:OpR X (binaryOp .Add) (rI0 fun i j=>.int (i+j)):=afy fun _ _ _ _ _ _ _ q=>add_int q
theorem adW:OpR X (binaryOp .Sub) (rI0 fun i j=>.int (i - j)):=afy fun _ _ _ _ _ _ _ q=>sub_int q
theorem aeX:OpR X (binaryOp .Mult) (rI ada fun i j=>.int (i * j)):=opI fun _ _ _ _ _ _ _ hc q=>mul_int q hc.ok
theorem adj:OpR X (binaryOp .FloorDiv) (rI afl fun i j=>.int (i / j)):=opI fun i j _ _ _ _ _ hc q=>by
 have h1:(0:Int) < j:=hc.1
 have h2:j < 1073741824:=hc.2
 exact floordiv_int (by omega) (by rw [Int.fdiv_eq_ediv_of_nonneg i (by omega)];exact q) (.inl (PyProof.noPylong_small (by omega)))
theorem aeI:OpR X (binaryOp .Mod) (rI (fun _ j=>0 < j) fun i j=>.int (i % j)):=opI fun i j _ _ _ _ _ hc q=>by
 have h1:(0:Int) < j:=hc
 exact mod_int' (by omega) (by rw [Int.fmod_eq_emod_of_nonneg i (by omega)];exact q)
theorem unI {f:Value->Sem Value}{g:Int->Int}
  (rule:∀ (i:Int) (t:Tok) (s:Shared) (Q:Value->Shared->Prop) (E:Value->Shared->Prop),Q (.int (g i) s.toks) {s with toks:=s.toks+1}->wpAny (model X.prog X.w) X.A (f (.int i t)) Q E s):
  UnR X f (rU fun i=>.int (g i)):=by
 intro pins s σ H x v Q I rx h
 obtain ⟨i,rfl,q⟩:=h
 obtain ⟨t,rfl⟩:=rx
 exact rule i t s _ _ ⟨.int (g i),H,I.tok _,⟨_,rfl⟩,q⟩
theorem aeY:UnR X (unaryOp .USub) (rU fun i=>.int (-i)):=unI fun _ _ _ _ _ q=>neg_int q
end
def scal:V->V->Bool
 | .non,.non=>true | .non,.int _=>true | .int _,.non=>true | .non,.bl _=>true | .bl _,.non=>true | .non,.str _=>true | .str _,.non=>true
 | .int _,.int _=>true | .bl _,.bl _=>true | .str _,.str _=>true | .byt _,.byt _=>true
 | .int _,.str _=>true | .str _,.int _=>true | .bl _,.str _=>true | .str _,.bl _=>true
 | _,_=>false
def rEq:R2:=fun x y H Q=>scal x y=true/\Q (.bl (decide (x=y))) H
def rNe:R2:=fun x y H Q=>scal x y=true/\Q (.bl (!decide (x=y))) H
theorem yi {i j:Int}:decide (V.int i=V.int j)=(i == j):=by
 rw [Bool.eq_iff_iff]
 simp
theorem abI {i j:Bool}:decide (V.bl i=V.bl j)=(i == j):=by
 rw [Bool.eq_iff_iff]
 simp
theorem yo {i j:Str}:decide (V.str i=V.str j)=(i == j):=by
 rw [Bool.eq_iff_iff]
 simp
theorem yE {i j:Array UInt8}:decide (V.byt i=V.byt j)=(i.toList == j.toList):=by
 rw [Bool.eq_iff_iff]
 cases i
 cases j
 simp
section
variable {X:Cx}{a b c:Expr}{ta tb tc:TE}{pos:Pos}
theorem br {pins:List (Addr×Obj)}{σ:St}{H:Hp}{s:Shared}{Q:VK}{k k':Bool}(I:Inv X pins σ H s)(q:Q (.bl k) H)(e:k=k'):EP X pins σ Q (.bool k') s:=by
 subst e
 exact ⟨.bl k,H,I,rfl,q⟩
theorem adH:OpR X (compareOp .Eq) rEq:=by
 intro pins s σ H x y v u Q I rx ry h
 obtain ⟨hs,q⟩:=h
 cases x with
 | non=>
  cases rx
  cases y with
  | non=>cases ry;exact PySem.EqNone.eq_none_none (br I q (by simp))
  | bl j=>cases ry;exact PySem.EqNone.eq_none_bool (br I q (by simp))
  | int j=>obtain ⟨t',rfl⟩:=ry;exact PySem.EqNone.eq_none_int (br I q (by simp))
  | str j=>obtain ⟨t',rfl⟩:=ry;exact PySem.EqNone.eq_none_str (br I q (by simp))
  | _=>exact absurd (show false=true from hs) Bool.false_ne_true
 | bl i=>
  cases rx
  cases y with
  | non=>cases ry;exact PySem.EqNone.eq_bool_none (br I q (by simp))
  | bl j=>cases ry;exact eq_bool (br I q abI)
  | str j=>obtain ⟨t',rfl⟩:=ry;exact PySem.EqMixed.eq_bool_str (br I q (by simp))
  | _=>exact absurd (show false=true from hs) Bool.false_ne_true
 | int i=>
  obtain ⟨t,rfl⟩:=rx
  cases y with
  | non=>cases ry;exact PySem.EqNone.eq_int_none (br I q (by simp))
  | int j=>obtain ⟨t',rfl⟩:=ry;exact eq_int (br I q yi)
  | str j=>obtain ⟨t',rfl⟩:=ry;exact PySem.EqMixed.eq_int_str (br I q (by simp))
  | _=>exact absurd (show false=true from hs) Bool.false_ne_true
 | str i=>
  obtain ⟨t,rfl⟩:=rx
  cases y with
  | non=>cases ry;exact PySem.EqNone.eq_str_none (br I q (by simp))
  | bl j=>cases ry;exact PySem.EqMixed.eq_str_bool (br I q (by simp))
  | int j=>obtain ⟨t',rfl⟩:=ry;exact PySem.EqMixed.eq_str_int (br I q (by simp))
  | str j=>obtain ⟨t',rfl⟩:=ry;exact eq_str (br I q yo)
  | _=>exact absurd (show false=true from hs) Bool.false_ne_true
 | byt i=>
  obtain ⟨t,rfl⟩:=rx
  cases y with
  | byt j=>obtain ⟨t',rfl⟩:=ry;exact PySem.W.eq_bytes (br I q yE)
  | _=>exact absurd (show false=true from hs) Bool.false_ne_true
 | _=>cases y<;>exact absurd (show false=true from hs) Bool.false_ne_true
theorem ads:OpR X (compareOp .NotEq) rNe:=by
 intro pins s σ H x y v u Q I rx ry h
 obtain ⟨hs,q⟩:=h
 cases x with
 | non=>
  cases rx
  cases y with
  | non=>cases ry;exact PySem.EqNone.ne_none_none (br I q (by simp))
  | bl j=>cases ry;exact PySem.EqNone.ne_none_bool (br I q (by simp))
  | int j=>obtain ⟨t',rfl⟩:=ry;exact PySem.EqNone.ne_none_int (br I q (by simp))
  | str j=>obtain ⟨t',rfl⟩:=ry;exact PySem.EqNone.ne_none_str (br I q (by simp))
  | _=>exact absurd (show false=true from hs) Bool.false_ne_true
 | bl i=>
  cases rx
  cases y with
  | non=>cases ry;exact PySem.EqNone.ne_bool_none (br I q (by simp))
  | bl j=>cases ry;exact ne_bool (br I q (congrArg not abI))
  | str j=>obtain ⟨t',rfl⟩:=ry;exact PySem.EqMixed.ne_bool_str (br I q (by simp))
  | _=>exact absurd (show false=true from hs) Bool.false_ne_true
 | int i=>
  obtain ⟨t,rfl⟩:=rx
  cases y with
  | non=>cases ry;exact PySem.EqNone.ne_int_none (br I q (by simp))
  | int j=>obtain ⟨t',rfl⟩:=ry;exact ne_int (br I q (congrArg not yi))
  | str j=>obtain ⟨t',rfl⟩:=ry;exact PySem.EqMixed.ne_int_str (br I q (by simp))
  | _=>exact absurd (show false=true from hs) Bool.false_ne_true
 | str i=>
  obtain ⟨t,rfl⟩:=rx
  cases y with
  | non=>cases ry;exact PySem.EqNone.ne_str_none (br I q (by simp))
  | bl j=>cases ry;exact PySem.EqMixed.ne_str_bool (br I q (by simp))
  | int j=>obtain ⟨t',rfl⟩:=ry;exact PySem.EqMixed.ne_str_int (br I q (by simp))
  | str j=>obtain ⟨t',rfl⟩:=ry;exact ne_str (br I q (congrArg not yo))
  | _=>exact absurd (show false=true from hs) Bool.false_ne_true
 | byt i=>
  obtain ⟨t,rfl⟩:=rx
  cases y with
  | byt j=>obtain ⟨t',rfl⟩:=ry;exact PySem.W.ne_bytes (br I q (congrArg not yE))
  | _=>exact absurd (show false=true from hs) Bool.false_ne_true
 | _=>cases y<;>exact absurd (show false=true from hs) Bool.false_ne_true
theorem vi:OpR X (compareOp .Lt) (rI0 fun i j=>.bl (decide (i < j))):=acx fun _ _ _ _ _ _ _ q=>lt_int q
theorem kO:OpR X (compareOp .LtE) (rI0 fun i j=>.bl (decide (i<=j))):=acx fun _ _ _ _ _ _ _ q=>le_int q
theorem afz:OpR X (compareOp .Gt) (rI0 fun i j=>.bl (decide (j < i))):=acx fun _ _ _ _ _ _ _ q=>gt_int q
theorem afg:OpR X (compareOp .GtE) (rI0 fun i j=>.bl (decide (j<=i))):=acx fun _ _ _ _ _ _ _ q=>ge_int q
theorem iw (b:Expr){op:CmpOp}(h:op≠.In:=by decide)(h2:op≠.NotIn:=by decide):behindInMarks op b=false:=by
 have e1:(op == CmpOp.In)=false:=by cases op<;>first | rfl | exact absurd rfl h
 have e2:(op == CmpOp.NotIn)=false:=by cases op<;>first | rfl | exact absurd rfl h2
 cases b<;>simp [behindInMarks,e1,e2]
theorem tq {op:CmpOp}{r:R2}(ho:OpR X (compareOp op) r)(ha:PE X a ta)(hb:PE X b tb)(hm:behindInMarks op b=false):PE X (.Compare a [op] [b] pos) (tOp r ta tb):=by
 intro pins s σ H Q I h
 exact wpAny_Compare1 (aeq ha hb I h fun v u s2 x y H2 I2 rx ry q=>ho pins s2 σ H2 x y v u Q I2 rx ry q) hm
def ado (t:TE):TT:=fun σ H Q=>t σ H fun x H'=>∃ k,x=.bl k/\Q k H'
theorem acS {op:CmpOp}{r:R2}(ho:OpR X (compareOp op) r)(ha:PE X a ta)(hb:PE X b tb)(hm:behindInMarks op b=false):PT X (.Compare a [op] [b] pos) (ado (tOp r ta tb)):=by
 intro pins s σ H Q I h
 refine wpAny_isTrue_Compare1 (thn (ha pins s σ H _ I h) fun v s1 ⟨x,H1,I1,r1,q1⟩=>thn (hb pins s1 σ H1 _ I1 q1) fun u s2 ⟨y,H2,I2,r2,q2⟩=>
  thn (ho pins s2 σ H2 x y v u _ I2 r1 r2 q2) fun c s3 ⟨z,H3,I3,r3,k,e,q3⟩=>?_) hm
 subst e
 cases r3
 exact wpAny_truthy_bool ⟨H3,I3,q3⟩
def aap (r r':R2)(ta tb tc:TE):TE:=fun σ H Q=>ta σ H fun x H1=>tb σ H1 fun y H2=>r x y H2 fun z H3=>∃ k,z=.bl k/\
 (if k=true then tc σ H3 fun w' H4=>r' y w' H4 Q else Q (.bl false) H3)
theorem abo {op op':CmpOp}{r r':R2}(ho:OpR X (compareOp op) r)(ho':OpR X (compareOp op') r')(ha:PE X a ta)(hb:PE X b tb)(hc:PE X c tc)
  (hm:lastMarks [op,op'] [b,c]=false:=by with_unfolding_all rfl):PE X (.Compare a [op,op'] [b,c] pos) (aap r r' ta tb tc):=by
 intro pins s σ H Q I h
 refine Compare_chain (thn (ha pins s σ H _ I h) fun v s1 ⟨x,H1,I1,r1,q1⟩=>chain_link (thn (hb pins s1 σ H1 _ I1 q1) fun u s2 ⟨y,H2,I2,r2,q2⟩=>
  thn (ho pins s2 σ H2 x y v u _ I2 r1 r2 q2) fun d s3 ⟨z,H3,I3,r3,k,e,q3⟩=>?_)) hm
 subst e
 cases r3
 refine wpAny_truthy_bool ?_
 cases k with
 | false=>exact ite_ff ⟨.bl false,H3,I3,rfl,q3⟩
 | true=>exact ite_tt (chain_last (thn (hc pins s3 σ H3 _ I3 q3) fun w' s4 ⟨z',H4,I4,r4,q4⟩=>ho' pins s4 σ H4 y z' u w' Q I4 r2 r4 q4))
theorem abN {op op':CmpOp}{r r':R2}(ho:OpR X (compareOp op) r)(ho':OpR X (compareOp op') r')(ha:PE X a ta)(hb:PE X b tb)(hc:PE X c tc)
  (hm:lastMarks [op,op'] [b,c]=false:=by with_unfolding_all rfl):PT X (.Compare a [op,op'] [b,c] pos) (ado (aap r r' ta tb tc)):=by
 intro pins s σ H Q I h
 refine isTrue_chain (thn (ha pins s σ H _ I h) fun v s1 ⟨x,H1,I1,r1,q1⟩=>test_link (thn (hb pins s1 σ H1 _ I1 q1) fun u s2 ⟨y,H2,I2,r2,q2⟩=>
  thn (ho pins s2 σ H2 x y v u _ I2 r1 r2 q2) fun d s3 ⟨z,H3,I3,r3,k,e,q3⟩=>?_)) hm
 subst e
 cases r3
 refine wpAny_truthy_bool ?_
 cases k with
 | false=>
  obtain ⟨k',e',q'⟩:=q3
  cases e'
  exact ite_ff ⟨H3,I3,q'⟩
 | true=>
  refine ite_tt (test_last (thn (hc pins s3 σ H3 _ I3 q3) fun w' s4 ⟨z',H4,I4,r4,q4⟩=>thn (ho' pins s4 σ H4 y z' u w' _ I4 r2 r4 q4) fun d' s5 ⟨z2,H5,I5,r5,k2,e2,q5⟩=>?_))
  subst e2
  cases r5
  exact wpAny_truthy_bool ⟨H5,I5,q5⟩
def ae9 (K:PySem.W.Frag)(x:V)(H:Hp)(k:Bool):Prop:=
 match x with
 | .non=>k=false
 | .bl b=>k=b
 | .int i=>k=(i != 0)
 | .str y=>y.length<=sizeLine/\k=((y.length:Int) != 0)
 | .byt y=>y.size<=sizeLine/\k=((y.size:Int) != 0)
 | .ref p=>(∃ xs,SqL K H p xs/\k=!xs.isEmpty)\/(∃ xs,SqT K H p xs/\k=!xs.isEmpty)\/∃ kvs,H p=some (.dK kvs)/\k=!kvs.isEmpty
 | _=>False
theorem xl {κ:Type}{kvs:List (κ×V)}{vs:List (κ×Value)}(r:KV kvs vs):(!vs.isEmpty)=!kvs.isEmpty:=by
 cases r<;>rfl
theorem qF {xs:List V}{its:List Value}(r:Vals xs its):(!its.toArray.isEmpty)=!xs.isEmpty:=by
 cases r<;>simp
theorem pQ:(sizeLine:Nat) < 2 ^ 63:=by rw [sizeLine_eq];decide
theorem aeH:agb X (fun x H Q=>∃ k,ae9 X.K x H k/\Q k H):=by
 intro pins s σ H x v Q I rx h
 obtain ⟨k,e,q⟩:=h
 have hl:=pQ
 have hs:sizeLine=16777216:=sizeLine_eq
 cases x with
 | non=>
  cases rx
  have e':k=false:=e
  subst e'
  exact truthy_none ⟨H,I,q⟩
 | bl b=>
  cases rx
  have e':k=b:=e
  subst e'
  exact wpAny_truthy_bool ⟨H,I,q⟩
 | int i=>
  obtain ⟨t,rfl⟩:=rx
  have e':k=(i != 0):=e
  subst e'
  exact PySem.P.truthy_int ⟨H,I,q⟩
 | str y=>
  obtain ⟨t,rfl⟩:=rx
  obtain ⟨hy,e'⟩:y.length<=sizeLine/\k=((y.length:Int) != 0):=e
  subst e'
  exact PySem.P.truthy_str (by omega) ⟨H,I.tok _,q⟩
 | byt y=>
  obtain ⟨t,rfl⟩:=rx
  obtain ⟨hy,e'⟩:y.size<=sizeLine/\k=((y.size:Int) != 0):=e
  subst e'
  exact PySem.W.truthy_bytes (by omega) ⟨H,I.tok _,q⟩
 | ref p=>
  cases rx
  have e':(∃ xs,SqL X.K H p xs/\k=!xs.isEmpty)\/(∃ xs,SqT X.K H p xs/\k=!xs.isEmpty)\/∃ kvs,H p=some (.dK kvs)/\k=!kvs.isEmpty:=e
  rcases e' with ⟨xs,hx,e'⟩ | ⟨xs,hx,e'⟩ | ⟨kvs,hx,e'⟩
  ·subst e'
   obtain ⟨its,r,pl,hz⟩:=I.list hx
   have hlen:=r.length
   exact wpAny_truthy_list pl.isList (by simp only [List.size_toArray];omega) ⟨H,I.tok _,by rw [qF r];exact q⟩
  ·subst e'
   obtain ⟨its,r,pl,hz⟩:=I.tuple hx
   have hlen:=r.length
   exact truthy_tuple pl (by simp only [List.size_toArray];omega) ⟨H,I.tok _,by rw [qF r];exact q⟩
  ·subst e'
   obtain ⟨hz,hS,vs,r,m⟩:kvs.length<=sizeLine/\(p == sysModules)=false/\∃ vs,KV kvs vs/\s.heap.DictOf (tI X.prog X.w) p vs:=I.hok p _ hx
   have hlen:kvs.length=vs.length:=Paired.length r
   exact wpAny_truthy_dict hS m (by omega) ⟨H,I.tok _,by rw [xl r];exact q⟩
 | _=>exact (show False from e).elim
theorem abY (ha:PE X a ta)(he:∀ whole,isTrue a X.env whole=(do let v <-whole;standAt a.pos;holding [v] (truthy v))):
  PT X a (fun σ H Q=>ta σ H fun x H'=>∃ k,ae9 X.K x H' k/\Q k H'):=by
 intro pins s σ H Q I h
 exact isTrue_plain (thn (ha pins s σ H _ I h) fun v s1 ⟨x,H1,I1,r1,q1⟩=>aeH pins s1 σ H1 x v Q I1 r1 q1) (he _)
theorem vals1 {x:V}{us:List Value}(r:Vals [x] us):∃ u,us=[u]/\bA x u:=by
 cases r with
 | cons r1 r2=>cases r2;exact ⟨_,rfl,r1⟩
theorem vals2 {x y:V}{us:List Value}(r:Vals [x,y] us):∃ u w',us=[u,w']/\bA x u/\bA y w':=by
 cases r with
 | cons r1 r2=>
  cases r2 with
  | cons r3 r4=>cases r4;exact ⟨_,_,rfl,r1,r3⟩
theorem zV (hc:X.calm=true):j3 X (.builtin "max") (fun xs H Q=>∃ i j,xs=[.int i,.int j]/\Q (.int (if j > i then j else i)) H):=by
 intro pins s σ H xs us Q I r h
 obtain ⟨i,j,rfl,q⟩:=h
 obtain ⟨u,w',rfl,⟨t,rfl⟩,⟨t',rfl⟩⟩:=vals2 r
 refine max_two_ints (I.ok.hd hc) fun h' tk k=>⟨_,H,I.kept k,?_,q⟩
 by_cases hj:j > i
 ·rw [if_pos hj,if_pos hj];exact ⟨_,rfl⟩
 ·rw [if_neg hj,if_neg hj];exact ⟨_,rfl⟩
end
end L2
namespace L2
open PySem PySem.Spec PyProof.Rows
structure xS (h:Heap)(x dx C:Addr)(mA:Str->Option Value):Prop where
 obj:h.get? x=some (PySem.W.instObj C dx)
 ns:h.Ns1 dx mA
 ne:dx≠x
theorem aad {h:Heap}{dx:Addr}{mA:Str->Option Value}(n:h.Ns1 dx mA):∃ od,h.get? dx=some od/\∀ name,PySem.W.lookIn name od=some (mA name):=by
 obtain ⟨o,es,ep,ho,hd,hk,_,hm⟩:=n
 refine ⟨o,ho,fun name=>?_⟩
 have e:=hm name
 unfold nsFind findBy at e
 rw [<-Array.find?_toList] at e
 unfold PySem.W.lookIn
 rw [hd]
 dsimp only
 split
 ·rename_i y q
  rw [q] at e
  exact congrArg some e
 ·rename_i q
  rw [q] at e
  have a:es.toList.any (·.refKey)=false:=by
   rw [List.any_eq_false]
   intro y hy
   obtain ⟨z,t,hkey⟩:=hk y (Array.mem_toList_iff.mp hy)
   simp [DictEntry.refKey,hkey]
  have a':¬ es.toList.any (·.refKey)=true:=by rw [a];exact Bool.false_ne_true
  rw [if_neg a']
  exact congrArg some e
theorem xS.look {h:Heap}{x dx C:Addr}{mA:Str->Option Value}(I:xS h x dx C mA):∃ od,PySem.W.InstAt h x (PySem.W.instObj C dx) C (some od)/\∀ name,PySem.W.lookIn name od=some (mA name):=
 let ⟨od,ho,hl⟩:=aad I.ns
 ⟨od,⟨I.obj,rfl,rfl,ho⟩,hl⟩
section
variable {prog:Program}{w:World}{A:Around}{E:Value->Shared->Prop}{s:Shared}{K:PySem.W.Frag}{x dx C f:Addr}{mA:Str->Option Value}{name:Str}{v:Value}
theorem acg {expr:Bool}{Q:Value->Shared->Prop}(X:K.In s.heap)(I:xS s.heap x dx C mA)(hg:PySem.W.plainGet K C name=true)(hh:PySem.W.hasDictIn K C=true)
  (ha:PySem.W.findIn K (.ref C) name=some none)(hv:mA name=some v)(hv':PySem.W.handedIn v=true)(h:Q v {s with toks:=s.toks+1}):
  wpAny (model prog w) A (getAttr (.ref x) name expr) Q E s:=by
 obtain ⟨od,J,hl⟩:=I.look
 exact PySem.W.get_value X J (PySem.W.plainGet_of hg).1 (PySem.W.findObj_own hh ha rfl (by rw [hl,hv])) hv' h
theorem abj {pl:Sem Bool}{Q:Value×List Value->Shared->Prop}(X:K.In s.heap)(I:xS s.heap x dx C mA)(hg:PySem.W.plainGet K C name=true)
  (hf:PySem.W.findIn K (.ref C) name=some (some (.ref f)))(ht:PySem.W.isFn K (.ref f)=true)(hv:mA name=none)(h:Q (.ref f,[.ref x]) s):
  wpAny (model prog w) A (getMethod (.ref x) name pl) Q E s:=by
 obtain ⟨od,J,hl⟩:=I.look
 exact PySem.W.method_fn X J (PySem.W.plainGet_of hg).1 (PySem.W.plainGet_of hg).2 hf (beq_iff_eq.mp ht) (by show (PySem.W.lookIn name od).map (·.isSome)=some false;rw [hl,hv];rfl) h
theorem acB {ns:List Str}{Q:Unit->Shared->Prop}(X:K.In s.heap)(I:xS s.heap x dx C mA)
  (hs:PySem.W.findIn K (.ref C) "__setattr__"=some (some (.builtin "object.__setattr__")))(hp:PySem.W.plainOver K C=true)(ht:PySem.W.takerIn K C name=some none)(hh:PySem.W.hasDictIn K C=true)
  (hw:PySem.Within mA ns)(hsz:ns.length<=sizeLine)
  (h:∀ h',xS h' x dx C (fun y=>if y=name then some v else mA y)->Heap.SameBut dx s.heap h'->Q () {s with heap:=h',toks:=s.toks+2}):
  wpAny (model prog w) A (setAttr (.ref x) name v) Q E s:=by
 obtain ⟨od,J,hl⟩:=I.look
 refine PySem.W.set_plain X J hs (PySem.W.osa_open (s:={s with toks:=s.toks+1}) (r:=none) X J hp ht fun b=>?_)
 obtain ⟨cd,hc,hd'⟩:=PySem.W.any_some hh
 have hx:s.heap.get? x=some ⟨.ref C,some dx,.plain,#[]⟩:=I.obj
 refine wpAny_bind (wpAny_pure (wpAny_bind (wpAny_bind (wpAny_loadPart hx (wpAny_bind (PySem.W.Looks.here (s:={s with toks:=s.toks+1}) (PySem.W.looks_clsIn X hc) ?_))))))
 rw [hd']
 refine wpAny_pure (a:=some dx) (wpAny_bind (wpAny_pure (wpAny_bind ?_)))
 refine wpAny_nsSet1 (s:={s with toks:=s.toks+1}) I.ns fun h' hn2 hs2=>?_
 obtain ⟨oD,esD,epD,hoD,hdD,hcD⟩:=hn2.count (PySem.Within.cons name v hw)
 refine wpAny_bind (wpAny_lookBehind hoD (by rw [hdD];exact pastItsLine_dict (Nat.le_trans hcD (by rw [List.length_cons];omega))) ?_)
 exact wpAny_pure (h _ ⟨(hs2.2 _ (Ne.symm I.ne)).trans I.obj,hn2,I.ne⟩ hs2)
theorem aaX {R:Result->Shared->Prop}{vs:List Value}{kw:List (Str×Value)}(X:K.In s.heap)(hm:PySem.W.makesIn K C=true)
  (hi:PySem.W.findIn K (.ref C) "__init__"=some (some (.ref f)))(hf:PySem.W.typeIn K (.ref f)=some (.type "function"))
  (h:codeAny (model prog w) (A.under (.builtin "type.__call__" ⟨.ref C::vs,kw⟩)) (.call (.ref f) ⟨.ref (s.heap.objs.size+1)::vs,kw⟩) (PySem.W.InitBack (s.heap.objs.size+1) R)
   {s with heap:=(s.heap.push PySem.W.emptyDict).push (PySem.W.instObj C s.heap.objs.size)}):
  codeAny (model prog w) A (.call (.ref C) ⟨vs,kw⟩) R s:=by
 obtain ⟨hh,g,d,t,os⟩:=s
 exact PySem.W.make_core (PySem.W.makes_of X hm) (PySem.W.looks_findIn X hi) (fun self=>PySem.W.bind_fn X self hf) (.inl rfl) h
end
def dZ (f:Str)(v:V):List (Str×V)->List (Str×V)
 | []=>[(f,v)]
 | (g,x)::r=>if g=f then (g,v)::r else (g,x)::dZ f v r
theorem m5 (f g:Str)(v:V):∀ fs:List (Str×V),(dZ f v fs).lookup g=if g=f then some v else fs.lookup g
 | []=>by
  show List.lookup g [(f,v)]=_
  by_cases h:g=f
  ·have hb:(g == f)=true:=beq_iff_eq.mpr h
   simp only [List.lookup,hb,if_pos h]
  ·have hb:(g == f)=false:=beq_eq_false_iff_ne.mpr h
   simp only [List.lookup,hb,if_neg h]
 | (k,x)::r=>by
  have ih:=m5 f g v r
  rw [show dZ f v ((k,x)::r)=(if k=f then (k,v)::r else (k,x)::dZ f v r) from rfl]
  by_cases hk:k=f
  ·rw [if_pos hk]
   by_cases h:g=k
   ·have hb:(g == k)=true:=beq_iff_eq.mpr h
    simp only [List.lookup,hb,if_pos (h.trans hk)]
   ·have hb:(g == k)=false:=beq_eq_false_iff_ne.mpr h
    simp only [List.lookup,hb,if_neg (fun e:g=f=>h (e.trans hk.symm))]
  ·rw [if_neg hk]
   by_cases h:g=k
   ·have hb:(g == k)=true:=beq_iff_eq.mpr h
    simp only [List.lookup,hb,if_neg (fun e:g=f=>hk (h.symm.trans e))]
   ·have hb:(g == k)=false:=beq_eq_false_iff_ne.mpr h
    simp only [List.lookup,hb]
    exact ih
theorem mh (f:Str)(v:V):∀ fs:List (Str×V),f∈(dZ f v fs).map (·.1)/\∀ g,g∈fs.map (·.1)->g∈(dZ f v fs).map (·.1)
 | []=>⟨by simp [dZ],fun g h=>by simp at h⟩
 | (k,x)::r=>by
  obtain ⟨i1,i2⟩:=mh f v r
  rw [show dZ f v ((k,x)::r)=(if k=f then (k,v)::r else (k,x)::dZ f v r) from rfl]
  by_cases hk:k=f
  ·rw [if_pos hk]
   subst hk
   exact ⟨by simp,fun g h=>by simpa using h⟩
  ·rw [if_neg hk]
   refine ⟨?_,fun g h=>?_⟩
   ·rw [List.map_cons]
    exact List.mem_cons_of_mem _ i1
   ·rw [List.map_cons] at h ⊢
    rcases List.mem_cons.mp h with e | e
    ·exact List.mem_cons.mpr (.inl e)
    ·exact List.mem_cons_of_mem _ (i2 g e)
theorem nh (f:Str)(v:V):∀ fs:List (Str×V),(dZ f v fs).length<=fs.length+1
 | []=>by simp [dZ]
 | (k,x)::r=>by
  have ih:=nh f v r
  rw [show dZ f v ((k,x)::r)=(if k=f then (k,v)::r else (k,x)::dZ f v r) from rfl]
  by_cases hk:k=f
  ·rw [if_pos hk,List.length_cons,List.length_cons];omega
  ·rw [if_neg hk,List.length_cons,List.length_cons];omega
theorem rF.some_of {v:V}{o:Option Value}(r:rF (some v) o):∃ u,o=some u/\bA v u:=by
 cases o with
 | none=>exact (show False from r).elim
 | some u=>exact ⟨u,rfl,r⟩
theorem rF.none_of {o:Option Value}(r:rF none o):o=none:=by
 cases o with
 | none=>rfl
 | some u=>exact (show False from r).elim
theorem zK {v:V}{u:Value}(r:bA v u):PySem.W.handedIn u=true:=by
 cases v with
 | non=>cases (show u=Value.none from r);rfl
 | bl b=>cases (show u=Value.bool b from r);rfl
 | int i=>obtain ⟨t,e⟩:=(show ∃ t,u=Value.int i t from r);cases e;rfl
 | str x=>obtain ⟨t,e⟩:=(show ∃ t,u=Value.str x t from r);cases e;rfl
 | byt b=>obtain ⟨t,e⟩:=(show ∃ t,u=Value.bytes b t from r);cases e;rfl
 | flt b=>obtain ⟨t,e⟩:=(show ∃ t,u=Value.float b t from r);cases e;rfl
 | ref a=>cases (show u=Value.ref a from r);rfl
 | ty n=>cases (show u=Value.type n from r);rfl
section
variable {P:Program}{w:World}{H H':Hp}{h h':Heap}{a C dx:Addr}{fs fs':List (Str×V)}
theorem tj (hok:HOk P w H h)(e:H a=some (.ins C dx fs)):∃ mA,xS h a dx C mA/\(∀ f,rF (fs.lookup f) (mA f))/\PySem.Within mA (fs.map (·.1))/\fs.length<=1000/\H dx=some (.own a):=by
 obtain ⟨d,z,ne,ob,mA,n,r,q⟩:=(show dH P w H h a (.ins C dx fs) from hok a _ e)
 exact ⟨mA,⟨ob,n,ne⟩,r,q,z,d⟩
end
structure Cls (K:PySem.W.Frag)(C:Addr):Prop where
 pg:PySem.W.plainGet K C Str.empty=true
 hd:PySem.W.hasDictIn K C=true
 po:PySem.W.plainOver K C=true
 sa:PySem.W.findIn K (.ref C) "__setattr__"=some (some (.builtin "object.__setattr__"))
theorem Cls.get {K:PySem.W.Frag}{C:Addr}(c:Cls K C)(f:Str):PySem.W.plainGet K C f=true:=c.pg
def aA (K:PySem.W.Frag)(C:Addr)(f:Str):Prop:=PySem.W.findIn K (.ref C) f=some none
theorem aA.taker {K:PySem.W.Frag}{C:Addr}{f:Str}(n:aA K C f):PySem.W.takerIn K C f=some none:=by
 unfold PySem.W.takerIn
 rw [show PySem.W.findIn K (.ref C) f=some none from n]
 rfl
structure Meth (K:PySem.W.Frag)(C:Addr)(m:Str)(f:Addr):Prop where
 at_:PySem.W.findIn K (.ref C) m=some (some (.ref f))
 fn:PySem.W.isFn K (.ref f)=true
 kp:PySem.W.keepIn K (.ref f)=true
section
variable {X:Cx}{pins:List (Addr×Obj)}{σ:St}{H:Hp}{s:Shared}{a C dx:Addr}{fs:List (Str×V)}{f:Str}{v:V}{A:Around}{E:Value->Shared->Prop}
theorem qj {b:Bool}{Q:Value->Shared->Prop}(I:Inv X pins σ H s)(e:H a=some (.ins C dx fs))(c:Cls X.K C)(n:aA X.K C f)(l:fs.lookup f=some v)
  (h:∀ u s',Inv X pins σ H s'->bA v u->Q u s'):wpAny (model X.prog X.w) A (getAttr (.ref a) f b) Q E s:=by
 obtain ⟨mA,O,r,_,_,_⟩:=tj I.hok e
 obtain ⟨u,hu,ru⟩:=rF.some_of (v:=v) (o:=mA f) (by rw [<-l];exact r f)
 exact acg I.kIn O (c.get f) c.hd n hu (zK ru) (h u _ (I.tok _) ru)
theorem qT {m:Str}{g:Addr}{pl:Sem Bool}{Q:Value×List Value->Shared->Prop}(I:Inv X pins σ H s)(e:H a=some (.ins C dx fs))(c:Cls X.K C)(k:Meth X.K C m g)(l:fs.lookup m=none)
  (h:Q (.ref g,[.ref a]) s):wpAny (model X.prog X.w) A (getMethod (.ref a) m pl) Q E s:=by
 obtain ⟨mA,O,r,_,_,_⟩:=tj I.hok e
 have hn:mA m=none:=rF.none_of (by rw [<-l];exact r m)
 exact abj I.kIn O (c.get m) k.at_ k.fn hn h
theorem o0 {y:V}{u:Value}{Q:Unit->Shared->Prop}(I:Inv X pins σ H s)(e:H a=some (.ins C dx fs))(c:Cls X.K C)(n:aA X.K C f)(hl:fs.length < 1000)(ry:bA y u)
  (h:∀ s',Inv X pins σ (upd H a (.ins C dx (dZ f y fs))) s'->Q () s'):wpAny (model X.prog X.w) A (setAttr (.ref a) f u) Q E s:=by
 obtain ⟨mA,O,r,wi,_,ho⟩:=tj I.hok e
 have hz:(fs.map (·.1)).length<=sizeLine:=by rw [List.length_map,sizeLine_eq];omega
 refine acB I.kIn O c.sa c.po n.taker c.hd wi hz fun h' O' sb=>h _ ?_
 have hd:∃ o,h'.get? dx=some o:=let ⟨o,_,_,e',_⟩:=O'.ns;⟨o,e'⟩
 refine I.write (x:=a) (e:=dx) (by rw [e];exact True.intro) (.inr ho) (fun b q hb z=>(sb.2 b hb).trans z) hd ?_
 refine ⟨by rw [am O.ne];exact ho,?_,O.ne,O'.obj,_,O'.ns,fun g=>?_,fun g hg=>?_⟩
 ·have:=nh f y fs;omega
 ·show rF ((dZ f y fs).lookup g) (if g=f then some u else mA g)
  rw [m5]
  by_cases q:g=f
  ·rw [if_pos q,if_pos q];exact ry
  ·rw [if_neg q,if_neg q];exact r g
 ·by_cases q:g=f
  ·rw [q];exact (mh f y fs).1
  ·refine (mh f y fs).2 g (wi g fun z=>hg ?_)
   show (if g=f then some u else mA g)=none
   rw [if_neg q];exact z
theorem Inv.made (I:Inv X pins σ H s):Inv X pins σ (upd (upd H s.heap.objs.size (.own (s.heap.objs.size+1))) (s.heap.objs.size+1) (.ins C s.heap.objs.size []))
  {s with heap:=(s.heap.push PySem.W.emptyDict).push (PySem.W.instObj C s.heap.objs.size)}:=by
 have e1:(s.heap.push PySem.W.emptyDict).get? s.heap.objs.size=some PySem.W.emptyDict:=Heap.get?_push_size s.heap rfl
 have e2:((s.heap.push PySem.W.emptyDict).push (PySem.W.instObj C s.heap.objs.size)).get? (s.heap.objs.size+1)=some (PySem.W.instObj C s.heap.objs.size):=by
  have:=Heap.get?_push_size (s.heap.push PySem.W.emptyDict) (o:=PySem.W.instObj C s.heap.objs.size) rfl
  rwa [Heap.size_push] at this
 have e3:(s.heap.push PySem.W.emptyDict).Ns s.heap.objs.size (fun _=>none):=⟨PySem.W.emptyDict,#[],_,e1,rfl,(fun e he=>absurd he (by simp)),fun _=>rfl⟩
 have I1:=I.laid (a:=s.heap.objs.size) (o:=.own (s.heap.objs.size+1)) (h':=s.heap.push PySem.W.emptyDict) (t':=s.toks) (fun b u q=>Heap.get?_push_of_some _ q) (Nat.le_refl _) ⟨_,e1⟩
 refine I1.laid (a:=s.heap.objs.size+1) (o:=.ins C s.heap.objs.size []) (t':=s.toks) (fun b u q=>Heap.get?_push_of_some _ q) (Nat.le_of_eq (Heap.size_push _ _)) ?_
 have ne:s.heap.objs.size≠s.heap.objs.size+1:=Nat.ne_of_lt (Nat.lt_succ_self _)
 refine ⟨by rw [am ne,aj],Nat.zero_le _,ne,e2,fun _=>none,(Heap.Ns1.of_empty e3).at fun o q=>Heap.get?_push_of_some _ q,fun _=>True.intro,fun y hy=>absurd rfl hy⟩
theorem adi {prog:Program}{w:World}{env:Env}{e:Expr}{f:Str}{pos:Pos}{s:Shared}{Q:Value->Shared->Prop}(hb:attributeBase e f env (eval e env)=eval e env)
  (h:wpAny (model prog w) A (eval e env) (fun o s₁=>wpAny (model prog w) A (getAttr o f true) Q E s₁) E s):wpAny (model prog w) A (eval (.Attribute e f pos) env) Q E s:=
 Attribute_any_ h (by rw [arm_eval_Attribute,hb])
end
def af7 (K:PySem.W.Frag)(ta:TE)(f:Str):TE:=fun σ H Q=>ta σ H fun x H1=>∃ a C dx fs v,x=.ref a/\H1 a=some (.ins C dx fs)/\Cls K C/\aA K C f/\fs.lookup f=some v/\Q v H1
def age (K:PySem.W.Frag)(ta tv:TE)(f:Str):TS:=fun D σ H=>tv σ H fun y H1=>ta σ H1 fun x H2=>∃ a C dx fs,x=.ref a/\H2 a=some (.ins C dx fs)/\Cls K C/\aA K C f/\fs.length < 1000/\
 D.nx σ (upd H2 a (.ins C dx (dZ f y fs)))
def afm (X:Cx)(op:Operator)(rd:V->V->Hp->VK->Prop):Prop:=
 ∀ (pins:List (Addr×Obj)) (s:Shared) (σ:St) (H:Hp) (x y:V) (u v:Value) (Q:VK),Inv X pins σ H s->bA x u->bA y v->rd x y H Q->wpAny (model X.prog X.w) X.A (inplaceOp op u v) (EP X pins σ Q) X.xe s
def acH (K:PySem.W.Frag)(ta tv:TE)(rd:V->V->Hp->VK->Prop)(f:Str):TS:=fun D σ H=>ta σ H fun x H1=>∃ a C dx fs v,x=.ref a/\H1 a=some (.ins C dx fs)/\Cls K C/\aA K C f/\fs.lookup f=some v/\
 tv σ H1 fun y H2=>rd v y H2 fun z H3=>∃ dx' fs',H3 a=some (.ins C dx' fs')/\fs'.length < 1000/\D.nx σ (upd H3 a (.ins C dx' (dZ f z fs')))
section
variable {X:Cx}{o e value:Expr}{f:Str}{pos pos' tpos:Pos}{ta tv:TE}
theorem ael (he:PE X e ta)(hb:attributeBase e f X.env (eval e X.env)=eval e X.env):PE X (.Attribute e f pos) (af7 X.K ta f):=by
 intro pins s σ H Q I h
 refine adi hb (thn (he pins s σ H _ I h) fun u s1 ⟨x,H1,I1,rx,a,C,dx,fs,v,ex,ea,c,n,l,q⟩=>?_)
 subst ex
 obtain rfl:u=Value.ref a:=rx
 exact qj I1 ea c n l fun u' s2 I2 ru=>⟨v,H1,I2,ru,q⟩
theorem aeE (ha:PE X o ta)(hv:PE X value tv)(hs:swapsWith value (some (.Attribute o f pos')) pos.line X.env=pure false):PS X (.Assign [.Attribute o f pos'] value pos) (age X.K ta tv f):=by
 intro pins s σ H D I h
 refine plainObj_wpAny_Assign_Attribute (thn (hv pins s σ H _ I h) fun u s1 ⟨y,H1,I1,ry,q⟩=>thn (ha pins s1 σ H1 _ I1 q) fun ov s2 ⟨x,H2,I2,rx,a,C,dx,fs,ex,ea,c,n,l,q2⟩=>?_) hs
 subst ex
 obtain rfl:ov=Value.ref a:=rx
 exact o0 I2 ea c n l ry fun s3 I3=>⟨σ,_,I3,q2⟩
theorem aaf {op:Operator}{rd:V->V->Hp->VK->Prop}(ha:PE X o ta)(hv:PE X value tv)(hop:afm X op rd):PS X (.AugAssign (.Attribute o f tpos) op value pos) (acH X.K ta tv rd f):=by
 intro pins s σ H D I h
 refine wpAny_AugAssign_AttributeAny (thn (ha pins s σ H _ I h) fun ov s1 ⟨x,H1,I1,rx,a,C,dx,fs,v,ex,ea,c,n,l,q⟩=>?_)
 subst ex
 obtain rfl:ov=Value.ref a:=rx
 refine qj I1 ea c n l fun u s2 I2 ru=>thn (hv pins s2 σ H1 _ I2 q) fun w3 s3 ⟨y,H2,I3,ry,q3⟩=>thn (hop pins s3 σ H2 v y u w3 _ I3 ru ry q3) fun w4 s4 ⟨z,H3,I4,rz,dx',fs',ea',l',q4⟩=>?_
 exact o0 I4 ea' c n l' rz fun s5 I5=>⟨σ,_,I5,q4⟩
def af6:V->V->Hp->VK->Prop:=fun x y H Q=>∃ i j,x=.int i/\y=.int j/\Q (.int (i+j)) H
theorem aeU:afm X .Add af6:=by
 rintro pins s σ H x y u v Q I rx ry ⟨i,j,rfl,rfl,q⟩
 obtain ⟨t,rfl⟩:=(show ∃ t,u=Value.int i t from rx)
 obtain ⟨t',rfl⟩:=(show ∃ t',v=Value.int j t' from ry)
 exact PyProof.Rows.iadd_int ⟨.int (i+j),H,I.tok _,⟨_,rfl⟩,q⟩
end
section
variable {X:Cx}{pins:List (Addr×Obj)}{σ:St}{H:Hp}{s:Shared}{A:Around}{E:Value->Shared->Prop}{Q:Value->Shared->Prop}{c:Value}{b:Bool}
end
end L2
namespace L2
open PySem PySem.Spec PyProof.Rows
structure Room (k:Nat)(A:Around):Prop where
 hd:A.handled=none
 dp:A.depth+3 * k+5 < recursionLimit
 un:A.units+16 * k+200 < cLine
theorem Room.mono {j k:Nat}{A:Around}(r:Room k A)(h:j<=k):Room j A:=⟨r.hd,by have:=r.dp;omega,by have:=r.un;omega⟩
theorem Room.deeper {k:Nat}{A:Around}(r:Room (k+1) A)(env:Env):Room k (A.deeper env):=
 ⟨r.hd,by have:=r.dp;show A.depth+1+3 * k+5 < _;omega,by have:=r.un;show A.units+3+16 * k+200 < _;omega⟩
theorem xM {A:Around}{C:Addr}{us:List Value}{kw:List (Str×Value)}:(A.under (.builtin "type.__call__" ⟨.ref C::us,kw⟩)).depth=A.depth+1:=by
 first | rfl | simp [Around.under,Code.weight,Code.isCreation,Code.isGuard,Code.isCaller,Code.frames,Code.isFrame,guardIds]
theorem xP {A:Around}{C:Addr}{us:List Value}{kw:List (Str×Value)}:(A.under (.builtin "type.__call__" ⟨.ref C::us,kw⟩)).units=A.units+1:=by
 first | rfl | simp [Around.under,Code.cUnits,Code.frames,Code.isFrame]
theorem Room.make {k:Nat}{A:Around}(r:Room (k+1) A)(C:Addr)(us:List Value)(kw:List (Str×Value)):Room k (A.under (.builtin "type.__call__" ⟨.ref C::us,kw⟩)):=
 ⟨r.hd,by have:=r.dp;rw [xM];omega,by have:=r.un;rw [xP];omega⟩
theorem Room.depth {k:Nat}{A:Around}(r:Room k A):A.depth < recursionLimit:=by have:=r.dp;omega
theorem Room.units {k:Nat}{A:Around}(r:Room k A):A.units+64 < cLine:=by have:=r.un;omega
def adR:TA:=fun _ H Q=>Q [] H
def ae3 (ta:TE)(tr:TA):TA:=fun σ H Q=>ta σ H fun x H1=>tr σ H1 fun xs H2=>Q (x::xs) H2
section
variable {X:Cx}{e:Expr}{es:List Expr}{te:TE}{t:TA}{pos:Pos}
theorem be:PA X [] adR:=fun _ _ _ _ H Q I h=>Calls.spliced_nil ⟨[],H,I,.nil,h⟩
theorem aq (ha:PE X e te)(hr:PA X es t)(hs:starEach (e::es) X.env=(false,eval e X.env)::starEach es X.env:=by rfl):PA X (e::es) (ae3 te t):=by
 intro pos pins s σ H Q I h
 rw [hs]
 show wpAny _ _ (spliced ((false,eval e X.env)::backTo pos (starEach es X.env))) _ _ s
 refine Calls.spliced_cons (thn (ha pins s σ H _ I h) fun u s1 ⟨x,H1,I1,r1,q1⟩=>?_)
 exact thn (hr pos pins s1 σ H1 _ I1 q1) fun us s2 ⟨xs,H2,I2,r2,q2⟩=>⟨x::xs,H2,I2,.cons r1 r2,q2⟩
def af9 (t:TA):TE:=fun σ H Q=>t σ H fun xs H1=>xs.length<=sizeLine/\∀ p,H1 p=none->Q (.ref p) (upd H1 p (.tup xs))
def agc (t:TA):TE:=fun σ H Q=>t σ H fun xs H1=>xs.length<=sizeLine/\∀ p,H1 p=none->Q (.ref p) (upd H1 p (.lst xs))
theorem aex  {x1} (h:PA X es t):PE X (.Tuple es x1 pos) (af9 t):=by
 intro pins s σ H Q I hq
 refine wpAny_Tuple_spliced (thn (h pos pins s σ H _ I hq) fun us s1 ⟨xs,H1,I1,r,z,q⟩=>⟨by rw [<-r.length];exact z,?_⟩)
 have hf:H1 s1.heap.objs.size=none:=I1.hok.fresh (Nat.le_refl _)
 refine ⟨.ref s1.heap.objs.size,upd H1 s1.heap.objs.size (.tup xs),I1.laid (t':=s1.toks) (fun b u e=>Heap.get?_push_of_some _ e) (Nat.le_refl _) ?_,rfl,q _ hf⟩
 exact ⟨z,us,r,⟨_,Heap.get?_push_size _ rfl,rfl,_,rfl⟩⟩
theorem aeW (h:PA X es t):PE X (.List es pos) (agc t):=by
 intro pins s σ H Q I hq
 refine wpAny_List_spliced (thn (h pos pins s σ H _ I hq) fun us s1 ⟨xs,H1,I1,r,z,q⟩=>⟨by rw [<-r.length];exact z,?_⟩)
 have hf:H1 s1.heap.objs.size=none:=I1.hok.fresh (Nat.le_refl _)
 refine ⟨.ref s1.heap.objs.size,upd H1 s1.heap.objs.size (.lst xs),I1.laid (t':=s1.toks) (fun b u e=>Heap.get?_push_of_some _ e) (Nat.le_refl _) ?_,rfl,q _ hf⟩
 exact ⟨z,us,0,r,Heap.get?_push_size _ rfl⟩
end
abbrev Sp:=List V->Hp->VK->XK->Prop
abbrev CXT:=List Env->Hp->Shared->XK->Value->Shared->Prop
structure Env0 (P:Program)(w:World)(K:PySem.W.Frag)(mg:Str->Option Value)(base:Heap)(A:Around)(outer:List Env)(s:Shared)(H:Hp):Prop where
 frames:A.frames=some outer
 mod:Mod K mg base
 bs:∀ b o,base.get? b=some o->s.heap.get? b=some o/\H b=none
 bsz:base.objs.size<=s.heap.objs.size
 funs:s.heap.FunFrames base outer
 frf:∀ b∈frs outer,H b=none
 hok:HOk P w H s.heap
 bare:AllBare s.gens
def CE (outer:List Env)(P:Program)(w:World)(H:Hp)(s:Shared)(Q:VK)(u:Value)(s':Shared):Prop:=
 ∃ v H',s'.os=s.os/\AllBare s'.gens/\Un (frs outer) [] H H' s.heap s'.heap/\HOk P w H' s'.heap/\bA v u/\Q v H'
def CR (CX:CXT)(outer:List Env)(P:Program)(w:World)(H:Hp)(s:Shared)(Q:VK)(E:XK)(r:Result)(s':Shared):Prop:=
 match r with
 | .ok (.ret u)=>CE outer P w H s Q u s'
 | .ok _=>False
 | .error e=>CX outer H s E e s'
structure eI (P:Program)(w:World)(K:PySem.W.Frag)(mg:Str->Option Value)(base:Heap)(CX:CXT)(k:Nat)(f:Addr)(fd:FuncData)(ps:List Str)(sp:Sp):Prop where
 len:∀ vs H Q E,sp vs H Q E->vs.length=ps.length
 run:∀ (A:Around) (outer:List Env) (s:Shared) (H:Hp) (args:Args) (us:List Value) (vs:List V) (Q:VK) (E:XK),Room k A->Env0 P w K mg base A outer s H->BindsTo s fd args (ps.zip us)->Vals vs us->sp vs H Q E->
  codeAny (model P w) A (.call (.ref f) args) (CR CX outer P w H s Q E) s
theorem eI.imp {P:Program}{w:World}{K:PySem.W.Frag}{mg:Str->Option Value}{base:Heap}{CX:CXT}{k:Nat}{f:Addr}{fd:FuncData}{ps:List Str}{sp sp':Sp}(F:eI P w K mg base CX k f fd ps sp)
  (h:∀ vs H Q E,sp' vs H Q E->sp vs H Q E):eI P w K mg base CX k f fd ps sp':=
 ⟨fun vs H Q E q=>F.len vs H Q E (h _ _ _ _ q),fun A outer s H args us vs Q E hr he hb hv hs=>F.run A outer s H args us vs Q E hr he hb hv (h _ _ _ _ hs)⟩
theorem Env0.make {P:Program}{w:World}{K:PySem.W.Frag}{mg:Str->Option Value}{base:Heap}{A:Around}{outer:List Env}{s:Shared}{H:Hp}(e:Env0 P w K mg base A outer s H)(C:Addr)(us:List Value)(kw:List (Str×Value)):
  Env0 P w K mg base (A.under (.builtin "type.__call__" ⟨.ref C::us,kw⟩)) outer s H:=⟨by first | exact e.frames | (simpa [Around.under,Code.envs,Code.isFrame,pushEnvs] using e.frames),e.mod,e.bs,e.bsz,e.funs,e.frf,e.hok,e.bare⟩
section
variable {X:Cx}{pins:List (Addr×Obj)}{σ:St}{H:Hp}{s s':Shared}
theorem Inv.env0 (I:Inv X pins σ H s):Env0 X.prog X.w X.K X.mg X.base X.A X.stack s H:=
 ⟨I.ok.frames,I.ok.mod,I.bs,Nat.le_trans I.ok.bsz I.sz,I.stack,I.stkFree,I.hok,I.bare⟩
theorem Inv.after {Q:VK}{u:Value}(I:Inv X pins σ H s)(h:CE X.stack X.prog X.w H s Q u s'):EP X pins σ Q u s':=by
 obtain ⟨v,H',os,bare,un,hok,r,q⟩:=h
 obtain ⟨hh,g,d,t,os'⟩:=s'
 obtain rfl:os'=s.os:=os
 exact ⟨v,H',I.call (h':=hh) (g':=g) (d':=d) (t':=t) (ch:=[]) un hok bare (fun b z=>absurd z (by simp)),r,q⟩
end
def afi (sp:Sp)(dvs:List V)(E:XK)(t:TA):TE:=fun σ H Q=>t σ H fun vs H1=>sp (vs++dvs) H1 Q E
def adv (C:Addr)(m:Str)(sp:Sp)(dvs:List V)(E:XK)(ta:TE)(t:TA):TE:=fun σ H Q=>ta σ H fun x H1=>∃ a dx fs,x=.ref a/\H1 a=some (.ins C dx fs)/\fs.lookup m=none/\
 t σ H1 fun vs H2=>sp (x::(vs++dvs)) H2 Q E
def adE (C:Addr)(sp:Sp)(dvs:List V)(E:XK)(t:TA):TE:=fun σ H Q=>t σ H fun vs H1=>∀ x dx,H1 x=none->H1 dx=none->dx≠x->
 sp (.ref x::(vs++dvs)) (upd (upd H1 dx (.own x)) x (.ins C dx [])) (fun v H2=>v=.non/\Q (.ref x) H2) E
def Binds (K:PySem.W.Frag)(fd:FuncData)(ps:List Str)(ds:List Value):Prop:=
 ∀ (s:Shared) (us:List Value),K.In s.heap->(us++ds).length=ps.length->BindsTo s fd ⟨us,[]⟩ (ps.zip (us++ds))
theorem Binds.all {K:PySem.W.Frag}{fd:FuncData}{ps:List Str}(h:∀ us:List Value,us.length=ps.length->bindArgs fd ⟨us,[]⟩=pure (ps.zip us)):Binds K fd ps []:=fun s us _ hl=>by
 rw [List.append_nil] at hl ⊢
 exact .of_eq (h us hl)
def jc (CX:CXT)(X:Cx)(E:XK):Prop:=∀ (pins:List (Addr×Obj)) (σ:St) (H:Hp) (s:Shared) (e:Value) (s':Shared),Inv X pins σ H s->CX X.stack H s E e s'->X.xe e s'
section
variable {X:Cx}{CX:CXT}{k:Nat}{f C:Addr}{fd:FuncData}{ps:List Str}{sp:Sp}{dvs:List V}{ds:List Value}{E:XK}{x m:Str}{p pos apos:Pos}{e o:Expr}{es:List Expr}{ta:TE}{t:TA}
theorem uk {pins:List (Addr×Obj)}{σ:St}{H:Hp}{s:Shared}{Q:VK}{us:List Value}{vs:List V}(F:eI X.prog X.w X.K X.mg X.base CX k f fd ps sp)(hr:Room k X.A)(hb:Binds X.K fd ps ds)(hd:Vals dvs ds)(hx:jc CX X E)
  (I:Inv X pins σ H s)(r:Vals vs us)(h:sp (vs++dvs) H Q E):wpAny (model X.prog X.w) X.A (call (.ref f) us) (EP X pins σ Q) X.xe s:=by
 have r2:Vals (vs++dvs) (us++ds):=r.append hd
 have hl:(us++ds).length=ps.length:=by rw [<-r2.length];exact F.len _ _ _ _ h
 refine wpAny_call (codeAny_mono (F.run X.A X.stack s H ⟨us,[]⟩ (us++ds) (vs++dvs) Q E hr I.env0 (hb s us I.kIn hl) r2 h) fun r s' hq=>?_)
 cases r with
 | error e=>exact hx pins σ H s e s' I hq
 | ok fl=>
  cases fl with
  | ret u=>exact I.after hq
  | next=>exact False.elim hq
  | brk=>exact False.elim hq
  | cont=>exact False.elim hq
theorem yq (F:eI X.prog X.w X.K X.mg X.base CX k f fd ps sp)(hr:Room k X.A)(hg:Gl X x)(hm:X.mg x=some (.ref f))(hk:PySem.W.keepIn X.K (.ref f)=true)(hb:Binds X.K fd ps ds)(hd:Vals dvs ds)(hx:jc CX X E)
  (ha:PA X (e::es) t)(hdb:(x == ("__debug__":Str))=false:=by decide)(he:starEach (e::es) X.env=(false,eval e X.env)::starEach es X.env:=by rfl)(hpl:(backTo pos (starEach es X.env)).any (·.1)=false:=by rfl):
  PE X (.Call (.Name x p) (e::es) [] pos) (afi sp dvs E t):=by
 intro pins s σ H Q I h
 refine wpAny_Call_Name_kw (oz I hg hm ?_ hdb)
 refine PySem.W.callWith_K (h₀:=X.base) I.ok.mod.kin hk (thn (ha pos pins s σ H _ I h) fun us s1 ⟨vs,H1,I1,r,q⟩=>⟨I1.kIn,?_⟩) he hpl
 exact uk F hr hb hd hx I1 r q
theorem fL {pl:Sem Bool}(he:PE X o ta)(c:Cls X.K C)(hm:Meth X.K C m f)(F:eI X.prog X.w X.K X.mg X.base CX k f fd ps sp)(hr:Room k X.A)(hb:Binds X.K fd ps ds)(hd:Vals dvs ds)(hx:jc CX X E)(ha:PA X (e::es) t)
  (hst:starEach (e::es) X.env=(false,eval e X.env)::starEach es X.env:=by rfl)(hpl:(backTo pos (starEach es X.env)).any (·.1)=false:=by rfl)
  (ht:eval (.Call (.Attribute o m apos) (e::es) [] pos) X.env=(do
   let ov <-eval o X.env
   standAt apos.atName
   let (f,first) <-holding [ov] (getMethod ov m pl)
   callWith pos f first (backTo pos (starEach (e::es) X.env)) (backToKw pos (keywordEach [] X.env))):=by rfl):
  PE X (.Call (.Attribute o m apos) (e::es) [] pos) (adv C m sp dvs E ta t):=by
 intro pins s σ H Q I h
 refine PySem.W.methodCall_KW (pl:=pl) (thn (he pins s σ H _ I h) fun u s1 ⟨x,H1,I1,rx,a,dx,fs,ex,ea,l,q⟩=>?_) ht
 subst ex
 obtain rfl:u=Value.ref a:=rx
 refine qT I1 ea c hm l ?_
 refine PySem.W.callWith_K (first:=[.ref a]) (h₀:=X.base) I.ok.mod.kin hm.kp (thn (ha pos pins s1 σ H1 _ I1 q) fun us s2 ⟨vs,H2,I2,r,q2⟩=>⟨I2.kIn,?_⟩) hst hpl
 exact uk (us:=.ref a::us) (vs:=.ref a::vs) F hr hb hd hx I2 (.cons rfl r) q2
theorem hZ {pl:Sem Bool}(he:PE X o ta)(c:Cls X.K C)(hm:Meth X.K C m f)(F:eI X.prog X.w X.K X.mg X.base CX k f fd ps sp)(hr:Room k X.A)(hb:Binds X.K fd ps ds)(hd:Vals dvs ds)(hx:jc CX X E)
  (ht:eval (.Call (.Attribute o m apos) [] [] pos) X.env=(do
   let ov <-eval o X.env
   standAt apos.atName
   let (f,first) <-holding [ov] (getMethod ov m pl)
   callWith pos f first (backTo pos (starEach [] X.env)) (backToKw pos (keywordEach [] X.env))):=by rfl):
  PE X (.Call (.Attribute o m apos) [] [] pos) (adv C m sp dvs E ta adR):=by
 intro pins s σ H Q I h
 refine PySem.W.methodCall_KW (pl:=pl) (thn (he pins s σ H _ I h) fun u s1 ⟨x,H1,I1,rx,a,dx,fs,ex,ea,l,q⟩=>?_) ht
 subst ex
 obtain rfl:u=Value.ref a:=rx
 refine qT I1 ea c hm l ?_
 exact PySem.W.callWith_K0 (first:=[.ref a]) I1.kIn hm.kp (uk (us:=[.ref a]) (vs:=[.ref a]) F hr hb hd hx I1 (.cons rfl .nil) q)
structure Mk (K:PySem.W.Frag)(C f:Addr):Prop where
 makes:PySem.W.makesIn K C=true
 init:PySem.W.findIn K (.ref C) "__init__"=some (some (.ref f))
 fn:PySem.W.isFn K (.ref f)=true
 kp:PySem.W.keepIn K (.ref C)=true
theorem wI {pins:List (Addr×Obj)}{σ:St}{H:Hp}{s:Shared}{Q:VK}{us:List Value}{vs:List V}(M:Mk X.K C f)(F:eI X.prog X.w X.K X.mg X.base CX k f fd ps sp)(hr:Room (k+1) X.A)(hb:Binds X.K fd ps ds)(hd:Vals dvs ds)
  (hx:jc CX X E)(I:Inv X pins σ H s)(r:Vals vs us)
  (h:∀ x dx,H x=none->H dx=none->dx≠x->sp (.ref x::(vs++dvs)) (upd (upd H dx (.own x)) x (.ins C dx [])) (fun v H2=>v=.non/\Q (.ref x) H2) E):
  wpAny (model X.prog X.w) X.A (call (.ref C) us) (EP X pins σ Q) X.xe s:=by
 have hq:=h (s.heap.objs.size+1) s.heap.objs.size (I.hok.fresh (Nat.le_succ _)) (I.hok.fresh (Nat.le_refl _)) (Nat.ne_of_lt (Nat.lt_succ_self _))
 have I2:=Inv.made (C:=C) I
 have r2:Vals (V.ref (s.heap.objs.size+1)::(vs++dvs)) (Value.ref (s.heap.objs.size+1)::(us++ds)):=.cons rfl (r.append hd)
 have hl:(Value.ref (s.heap.objs.size+1)::us++ds).length=ps.length:=by
  have e:=r2.length
  rw [F.len _ _ _ _ hq] at e
  exact e.symm
 refine wpAny_call (aaX (f:=f) I.kIn M.makes M.init (beq_iff_eq.mp M.fn) (codeAny_mono (F.run _ X.stack _ _ ⟨Value.ref (s.heap.objs.size+1)::us,[]⟩ (Value.ref (s.heap.objs.size+1)::(us++ds)) _ _ E (hr.make C us [])
  (I2.env0.make C us []) (hb _ (Value.ref (s.heap.objs.size+1)::us) I2.kIn hl) r2 hq) fun r s' hq'=>?_))
 cases r with
 | error e=>exact hx pins σ _ _ e s' I2 hq'
 | ok fl=>
  cases fl with
  | ret u=>
   obtain ⟨v,H',I3,rv,ev,q3⟩:=I2.after hq'
   subst ev
   exact ⟨rv,⟨V.ref (s.heap.objs.size+1),H',I3,rfl,q3⟩⟩
  | next=>exact False.elim hq'
  | brk=>exact False.elim hq'
  | cont=>exact False.elim hq'
theorem xZ (M:Mk X.K C f)(F:eI X.prog X.w X.K X.mg X.base CX k f fd ps sp)(hr:Room (k+1) X.A)(hg:Gl X x)(hm:X.mg x=some (.ref C))(hb:Binds X.K fd ps ds)(hd:Vals dvs ds)(hx:jc CX X E)
  (ha:PA X (e::es) t)(hdb:(x == ("__debug__":Str))=false:=by decide)(he:starEach (e::es) X.env=(false,eval e X.env)::starEach es X.env:=by rfl)(hpl:(backTo pos (starEach es X.env)).any (·.1)=false:=by rfl):
  PE X (.Call (.Name x p) (e::es) [] pos) (adE C sp dvs E t):=by
 intro pins s σ H Q I h
 refine wpAny_Call_Name_kw (oz I hg hm ?_ hdb)
 refine PySem.W.callWith_K (h₀:=X.base) I.ok.mod.kin M.kp (thn (ha pos pins s σ H _ I h) fun us s1 ⟨vs,H1,I1,r,q⟩=>⟨I1.kIn,?_⟩) he hpl
 exact wI M F hr hb hd hx I1 r q
theorem abM (M:Mk X.K C f)(F:eI X.prog X.w X.K X.mg X.base CX k f fd ps sp)(hr:Room (k+1) X.A)(hg:Gl X x)(hm:X.mg x=some (.ref C))(hb:Binds X.K fd ps ds)(hd:Vals dvs ds)(hx:jc CX X E)
  (hdb:(x == ("__debug__":Str))=false:=by decide):PE X (.Call (.Name x p) [] [] pos) (adE C sp dvs E adR):=by
 intro pins s σ H Q I h
 refine wpAny_Call_Name_kw (oz I hg hm ?_ hdb)
 exact PySem.W.callWith_K0 I.kIn M.kp (wI (us:=[]) M F hr hb hd hx I .nil h)
end
section
variable {X:Cx}{CX:CXT}{k:Nat}{f C:Addr}{fd:FuncData}{ps ks:List Str}{sp:Sp}{E:XK}{x m:Str}{p pos apos kpos:Pos}{e o:Expr}{es:List Expr}{kws:List Keyword}{te ta:TE}{t tk:TA}{nm:Option Str}
variable {g:List Value->List Value->List Value}{gV:List V->List V->List V}
end
structure af (N P:List Str)(sc:Scope):Prop where
 kind:sc.kind=.function
 co:sc.isCoroutine=false
 gen:sc.isGenerator=false
 nd:N.Nodup
 pre:N.take P.length=P
 par:∀ x∈P,sc.names.lookup x=some .local\/sc.names.lookup x=some .cell
 nofree:∀ y∈sc.names,y.2≠.free
theorem sP {kindOf:Str->Option NameKind}{x:Str}:∀ {binds:List (Str×Value)} {m:Str->Option Value},(∀ v,(x,v) ∉ binds)->bindL kindOf binds m x=m x
 | [],_,_=>rfl
 | (n,v)::r,m,h=>by
  unfold bindL
  rw [sP fun w hw=>h w (List.mem_cons_of_mem _ hw)]
  split
  ·have:x≠n:=by rintro rfl;exact h v List.mem_cons_self
   simp [this]
  ·rfl
theorem r8 {kindOf:Str->Option NameKind}{x:Str}:∀ {binds:List (Str×Value)} {m:Str->Option Value},(∀ v,(x,v) ∉ binds)->bindC kindOf binds m x=m x
 | [],_,_=>rfl
 | (n,v)::r,m,h=>by
  unfold bindC
  rw [r8 fun w hw=>h w (List.mem_cons_of_mem _ hw)]
  split
  ·rfl
  ·have:x≠n:=by rintro rfl;exact h v List.mem_cons_self
   simp [this]
theorem r9 {kindOf:Str->Option NameKind}{x:Str}{v:Value}:∀ {P:List Str} {vs:List Value} {i:Nat} {m:Str->Option Value},P.Nodup->P[i]?=some x->vs[i]?=some v->kindOf x=some .local->
  bindL kindOf (P.zip vs) m x=some v
 | [],_,_,_,_,h,_,_=>by simp at h
 | _::_,[],_,_,_,_,h,_=>by simp at h
 | p::P,w::vs,0,m,nd,h1,h2,hk=>by
  simp at h1 h2;subst h1;subst h2
  show bindL kindOf ((p,w)::P.zip vs) m p=_
  unfold bindL
  rw [sP fun v hv=>(List.nodup_cons.mp nd).1 (List.of_mem_zip hv).1,if_pos hk]
  simp
 | p::P,w::vs,i+1,m,nd,h1,h2,hk=>by
  show bindL kindOf ((p,w)::P.zip vs) m x=_
  unfold bindL
  exact r9 (i:=i) (List.nodup_cons.mp nd).2 (by simpa using h1) (by simpa using h2) hk
theorem sE {kindOf:Str->Option NameKind}{x:Str}{v:Value}:∀ {P:List Str} {vs:List Value} {i:Nat} {m:Str->Option Value},P.Nodup->P[i]?=some x->vs[i]?=some v->kindOf x≠some .local->
  bindC kindOf (P.zip vs) m x=some v
 | [],_,_,_,_,h,_,_=>by simp at h
 | _::_,[],_,_,_,_,h,_=>by simp at h
 | p::P,w::vs,0,m,nd,h1,h2,hk=>by
  simp at h1 h2;subst h1;subst h2
  show bindC kindOf ((p,w)::P.zip vs) m p=_
  unfold bindC
  rw [r8 fun v hv=>(List.nodup_cons.mp nd).1 (List.of_mem_zip hv).1,if_neg hk]
  simp
 | p::P,w::vs,i+1,m,nd,h1,h2,hk=>by
  show bindC kindOf ((p,w)::P.zip vs) m x=_
  unfold bindC
  exact sE (i:=i) (List.nodup_cons.mp nd).2 (by simpa using h1) (by simpa using h2) hk
def start (N:List Str)(vs:List V):St:=vs.map some++List.replicate (N.length - vs.length) none
def pK (CX:CXT)(P:Program)(w:World)(K:PySem.W.Frag)(mg:Str->Option Value)(base:Heap)(N:List Str)(qual:Str)(scope:Scope)(f:Addr)(cd:Value)(A:Around)(outer:List Env)(s:Shared)(H:Hp)(E:XK):Cx where
 prog:=P
 w:=w
 K:=K
 mg:=mg
 base:=base
 A:=A.deeper (envOfC qual scope s.heap.objs.size f cd)
 N:=N
 s_0:=s
 H_0:=H
 env:=envOfC qual scope s.heap.objs.size f cd
 outer:=outer
 stack:=envOfC qual scope s.heap.objs.size f cd::outer
 ex:=[]
 calm:=true
 fn:=fun _=>true
 pn:=[]
 xe:=fun e s'=>wpAny (model P w) (A.deeper (envOfC qual scope s.heap.objs.size f cd)) (leaving (envOfC qual scope s.heap.objs.size f cd) e) (fun _ s''=>CX outer H s E e s'') (fun e' s''=>CX outer H s E e' s'') s'
theorem vD {sc:Scope}{n:Nat}{x:Str}(h:sc.names.lookup x=some .cell):∃ c,(cellsFrom n sc.names []).lookup x=some c:=by
 have q:=PySem.W.cellsFrom_some sc.names n [] (.inl h)
 exact Option.isSome_iff_exists.mp q
theorem zP {CX:CXT}{P:Program}{w:World}{K:PySem.W.Frag}{mg:Str->Option Value}{base:Heap}{N ps:List Str}{qual:Str}{scope:Scope}{f:Addr}{cd:Value}{A:Around}{outer:List Env}{s s1:Shared}{H:Hp}{E:XK}{us:List Value}{vs:List V}
  (S:af N ps scope)(hd:A.handled=none)(e0:Env0 P w K mg base A outer s H)(hl:vs.length=ps.length)(r:Vals vs us)
  (x:InCallC s s.heap.objs.size (bindL (envOfC qual scope s.heap.objs.size f cd).kindOf (ps.zip us) fun _=>none) (cellsFrom (s.heap.objs.size+1) scope.names []) (bindC (envOfC qual scope s.heap.objs.size f cd).kindOf (ps.zip us) fun _=>none) s1):
  Inv (pK CX P w K mg base N qual scope f cd A outer s H E) [] (start N vs) H s1:=by
 have hpl:ps.length<=N.length:=by have:=congrArg List.length S.pre;rw [List.length_take] at this;omega
 obtain ⟨h1,tk,rfl,hk⟩:=x.done
 have noA:∀ b:Addr,b ∉ (pK CX P w K mg base N qual scope f cd A outer s H E).ex:=fun b z=>absurd (show b∈([]:List Addr) from z) (by simp)
 refine ⟨⟨e0.mod,S.kind,rfl,rfl,Nat.le_refl _,fun y z c h1 h2=>?_,fun y hy=>?_,fun y c _ h=>?_,fun _=>hd,Around.frames_deeper e0.frames,.inr ⟨rfl,rfl⟩,fun b z=>absurd z (noA b),e0.bs,e0.bsz,fun b _ _=>noA b,fun b z=>absurd z (noA b),e0.funs,e0.frf⟩,
  rfl,e0.bare,Un.kept hk,⟨_,x.toInCall.ns,fun i y v h1 h2 h3=>?_⟩,fun y c h=>⟨_,x.cell y c h⟩,e0.hok.fresh (Nat.le_refl _),fun y c h=>?_,fun p hp=>absurd (show p∈([]:List (Addr×Obj)) from hp) (by simp),e0.hok.kept hk,?_⟩
 ·exact name_of_addr x.apart (PySem.mem_of_lookup h1) (PySem.mem_of_lookup h2)
 ·have hy:scope.names.lookup y=some .cell\/scope.names.lookup y=some .free:=hy
  rcases hy with hy | hy
  ·exact vD hy
  ·exact absurd rfl (S.nofree _ (PySem.mem_of_lookup hy))
 ·exact Nat.le_of_lt (x.above y c (PySem.mem_of_lookup h))
 ·have hi:i < vs.length:=by
   unfold start at h2
   by_cases hi:i < vs.length
   ·exact hi
   ·rw [List.getElem?_append_right (by simpa using hi)] at h2
    rw [List.getElem?_replicate] at h2
    split at h2<;>cases h2
  have ha:vs[i]?=some v:=by
   unfold start at h2
   rw [List.getElem?_append_left (by simpa using hi),List.getElem?_map] at h2
   cases e:vs[i]? with
   | none=>rw [e] at h2;cases h2
   | some a=>rw [e] at h2;cases h2;rfl
  obtain ⟨u,hu,rv⟩:=r.get ha
  have hp:ps[i]?=some y:=by
   rw [<-S.pre,List.getElem?_take_of_lt (by omega)];exact h1
  have ndP:ps.Nodup:=by rw [<-S.pre];exact S.nd.sublist (List.take_sublist _ _)
  refine ⟨u,rv,?_⟩
  rcases S.par y (List.mem_of_getElem? hp) with k | k
  ·exact .inl ⟨k,r9 ndP hp hu k⟩
  ·obtain ⟨c,e⟩:=vD (n:=s.heap.objs.size+1) k
   refine .inr ⟨.inl k,c,e,?_⟩
   have q:=x.cell y c e
   rw [sE ndP hp hu (by show scope.names.lookup y≠_;rw [k];decide)] at q
   exact q
 ·exact e0.hok.fresh (Nat.le_of_lt (x.above y c (PySem.mem_of_lookup h)))
 ·unfold start
  show _=N.length
  rw [List.length_append,List.length_map,List.length_replicate]
  omega
theorem afj {CX:CXT}{P:Program}{w:World}{K:PySem.W.Frag}{mg:Str->Option Value}{base:Heap}{k:Nat}{f:Addr}{name qual:Str}{params:Arguments}{body:List Stmt}{scope:Scope}{dV kV doc pm cdv ct oc:Value}{an od:Option Addr}
  {osl:Array (Option Value)}{N ps:List Str}{sp:Sp}(lk:K.lookup f=some ⟨oc,od,.func (PySem.W.fnOf name qual params body scope dV kV doc pm an cdv ct),osl⟩)(hcd:PySem.W.codeIn K cdv qual=true)(S:af N ps scope)
  (len:∀ vs H Q E,sp vs H Q E->vs.length=ps.length)
  (hbody:∀ (A:Around) (outer:List Env) (s:Shared) (H:Hp) (vs:List V) (Q:VK) (E:XK),Room k (A.deeper (envOfC qual scope s.heap.objs.size f cdv))->sp vs H Q E->
   ∃ t,PSs (pK CX P w K mg base N qual scope f cdv A outer s H E) body t/\t {nx:=fun _ H'=>Q .non H',rt:=Q} (start N vs) H):
  eI P w K mg base CX (k+1) f (PySem.W.fnOf name qual params body scope dV kV doc pm an cdv ct) ps sp:=by
 refine ⟨len,fun A outer s H args us vs Q E hr e0 hb r hsp=>?_⟩
 have hl:=len _ _ _ _ hsp
 have KX:K.In s.heap:=e0.mod.kin.keeps fun b o e=>(e0.bs b o e).1
 have lim:s.heap.NoLimit:=e0.mod.nolimit.keeps fun b o e=>(e0.bs b o e).1
 have hkind:∀ y∈ps.zip us,scope.names.lookup y.1=some .local\/(scope.names.lookup y.1=some .cell/\((cellsFrom (s.heap.objs.size+1) scope.names []).lookup y.1).isSome=true):=fun ⟨n,v⟩ hy=>by
  rcases S.par n (List.of_mem_zip hy).1 with q | q
  ·exact .inl q
  ·exact .inr ⟨q,PySem.W.cellsFrom_some _ _ _ (.inl q)⟩
 refine codeAny_call_function hr.depth (KX _ _ lk) rfl S.co S.gen rfl (PySem.W.codeRec_of KX hcd) (hb _ _ _ _ ?_)
 refine wpAny_newFunctionEnv_cells S.kind hkind fun env he s1 x=>?_
 subst he
 refine ⟨lim.keeps x.toInCall.keep,codeAny_func ?_⟩
 obtain ⟨t,ht,hq⟩:=hbody A outer s H vs Q E (hr.deeper _) hsp
 have I:Inv (pK CX P w K mg base N qual scope f cdv A outer s H E) [] (start N vs) H s1:=zP S hr.hd e0 hl r x
 refine wpAny_mono (ht [] s1 (start N vs) H _ I hq) (fun fl s' hs=>?_) fun e s' hs=>hs
 have fin:∀ {σ':St} {H':Hp} {v:V} {u:Value},Inv (pK CX P w K mg base N qual scope f cdv A outer s H E) [] σ' H' s'->bA v u->Q v H'->CE outer P w H s Q u s':=
  fun {σ' H' v u} J rv q=>⟨v,H',J.os,J.bare,J.base,J.hok,rv,q⟩
 cases fl with
 | ret u=>
  obtain ⟨v,σ',H',J,rv,q⟩:=hs
  exact fin J rv q
 | next=>
  obtain ⟨σ',H',J,q⟩:=hs
  exact fin (v:=V.non) (u:=Value.none) J rfl q
 | brk=>
  obtain ⟨_,_,_,q⟩:=hs
  exact False.elim q
 | cont=>
  obtain ⟨_,_,_,q⟩:=hs
  exact False.elim q
end L2
namespace L2
open PySem PySem.Spec PyProof.Rows
section
variable {X:Cx}{x:Str}{p pos:Pos}{e:Expr}{es:List Expr}{t:TA}{id T:String}{r:List V->Hp->VK->Prop}
def tCB (r:List V->Hp->VK->Prop)(t:TA):TE:=fun σ H Q=>t σ H fun vs H1=>r vs H1 Q
theorem hU (hc:j3 X (.builtin id) r)(hg:Gl X x)(hm:X.mg x=none)(hv:bootBuiltins x=some (.builtin id))(ha:PA X (e::es) t)(hn:x≠"__name__":=by decide)(hdb:(x == ("__debug__":Str))=false:=by decide)
  (he:starEach (e::es) X.env=(false,eval e X.env)::starEach es X.env:=by rfl)(hpl:(backTo pos (starEach es X.env)).any (·.1)=false:=by rfl):PE X (.Call (.Name x p) (e::es) [] pos) (tCB r t):=by
 intro pins s σ H Q I h
 refine wpAny_Call_Name_kw (mO I hg hm hv ?_ hn hdb)
 exact PyProof.Rows.callWith_builtin1 (thn (ha pos pins s σ H _ I h) fun us s1 ⟨vs,H1,I1,r1,q1⟩=>hc pins s1 σ H1 vs us Q I1 r1 q1) he hpl
theorem si (hc:j3 X (.type T) r)(hg:Gl X x)(hm:X.mg x=none)(hv:bootBuiltins x=some (.type T))(ha:PA X (e::es) t)(hn:x≠"__name__":=by decide)(hdb:(x == ("__debug__":Str))=false:=by decide)
  (he:starEach (e::es) X.env=(false,eval e X.env)::starEach es X.env:=by rfl)(hpl:(backTo pos (starEach es X.env)).any (·.1)=false:=by rfl):PE X (.Call (.Name x p) (e::es) [] pos) (tCB r t):=by
 intro pins s σ H Q I h
 refine wpAny_Call_Name_kw (mO I hg hm hv ?_ hn hdb)
 exact PyProof.Rows.callWith_type1 (thn (ha pos pins s σ H _ I h) fun us s1 ⟨vs,H1,I1,r1,q1⟩=>hc pins s1 σ H1 vs us Q I1 r1 q1) he hpl
end
end L2
namespace HT
open PySem PyProof.Rows
def lexLt:List Int->List Int->Bool
 | [],[]=>false
 | [],_::_=>true
 | _::_,[]=>false
 | x::xs,y::ys=>if x=y then lexLt xs ys else decide (x < y)
theorem lexLt_cons (x y:Int)(xs ys:List Int):lexLt (x::xs) (y::ys)=if x=y then lexLt xs ys else decide (x < y):=rfl
theorem lexLt_nil_nil:lexLt [] []=false:=rfl
theorem lexLt_nil_cons (y:Int)(ys:List Int):lexLt [] (y::ys)=true:=rfl
theorem lexLt_cons_nil (x:Int)(xs:List Int):lexLt (x::xs) []=false:=rfl
theorem eqAt_int (A:Around)(s:Shared)(a:Int)(t:Tok)(c:Int)(u:Tok):∃ e,SeqAt.EqAt A s (.int a t) (.int c u) e/\(e=true ↔ a=c):=
 ⟨(a == c),SeqAt.EqAt.int_int a t c u,by simp⟩
theorem aam (A:Around)(s:Shared)(a:Int)(t:Tok)(c:Int)(u:Tok)(prog:Program)(w:World)(E:Value->Shared->Prop)(Q:Value->Shared->Prop)(h:Q (.bool (decide (a < c))) s):
  wpAny (model prog w) A (richCompare .Lt (.int a t) (.int c u)) Q E s:=
 (PyProof.Rows.lt_int h:wpAny (model prog w) A (compareOp .Lt (.int a t) (.int c u)) Q E s)
section
open PySem.SeqAt
open PySem.AutoSeq1 (wpAny_loadPart')
open PySem.MeetsSeq PySem.MeetsSeq2 PySem.MeetsSeq3
theorem rh (l b:Addr)(items items2:Array Value)(n n2:Nat)(dd dd2:Option Addr)(sl sl2:Array (Option Value))(ns ms:List Int)(hi:IntsAre items.toList ns)(hj:IntsAre items2.toList ms):
  Meets (Builtin.«tuple.__lt__» ⟨[.ref l,.ref b],[]⟩)
   (fun _ R s=>s.heap.get? l=some {cls:=.type "tuple",dict:=dd,data:=.seq items n,slots:=sl}/\s.heap.get? b=some {cls:=.type "tuple",dict:=dd2,data:=.seq items2 n2,slots:=sl2}/\
    R (.ok (.ret (.bool (lexLt ns ms)))) s):=
 .of_wp fun prog w A R s h=>by
  obtain ⟨hp,g,d,tk,os⟩:=s;obtain ⟨hl,hb,h⟩:=h
  have f2:=AutoSeq1.sub_tuple_tuple
  have z1:items.size=ns.length:=by rw [<-hi.length];simp
  have z2:items2.size=ms.length:=by rw [<-hj.length];simp
  wp_walk using wpAny_loadPart' hl,wpAny_loadPart' hb,wpAny_forIn_list _ (fun rest b s'=>b.1=none/\s'=⟨hp,g,d,tk,os⟩/\∃ (vs ws:List Value) (ns' ms':List Int),rest=vs.zip ws/\
   IntsAre vs ns'/\IntsAre ws ms'/\ns'.length+items2.size=ms'.length+items.size/\R (.ok (.ret (.bool (lexLt ns' ms')))) ⟨hp,g,d,tk,os⟩) _
  case turn=>
   rintro ⟨y,x⟩ rest b s' ⟨hb',rfl,vs,ws,ns',ms',hz,hvi,hwi,hlen,hR⟩
   cases hvi with
   | nil=>rw [List.zip_nil_left] at hz;cases hz
   | cons a t hvi'=>
    cases hwi with
    | nil=>rw [List.zip_nil_right] at hz;cases hz
    | cons c u hwi'=>
     rw [List.zip_cons_cons] at hz
     injection hz with hyx hrest
     injection hyx with hy hx
     subst hy hx
     rw [lexLt_cons] at hR
     simp only [List.length_cons] at hlen
     obtain ⟨e,he,hiff⟩:=eqAt_int A.in1 ⟨hp,g,d,tk,os⟩ a t c u
     refine wpAny_bind (he prog w _ _ ?_)
     cases e with
     | true=>
      rw [if_pos (hiff.mp rfl)] at hR
      wp_walk
      exact ⟨rfl,rfl,_,_,_,_,hrest,hvi',hwi',by omega,hR⟩
     | false=>
      rw [if_neg (fun q=>absurd (hiff.mpr q) Bool.false_ne_true)] at hR
      have hri:=aam A.in1 ⟨hp,g,d,tk,os⟩ a t c u prog w
      wp_walk using hri
      exact ⟨_,rfl,by simpa using hR⟩
  case fin=>
   rintro ⟨b1,b2⟩ s' ⟨hb',rfl,vs,ws,ns',ms',hz,hvi,hwi,hlen,hR⟩
   simp only at hb'
   subst hb'
   have hv:lexLt ns' ms'=decide (items.size < items2.size):=by
    cases hvi with
    | nil=>
     cases hwi with
     | nil=>
      simp only [List.length_nil] at hlen
      rw [lexLt_nil_nil]
      exact (decide_eq_false (by omega)).symm
     | cons c u hw=>
      simp only [List.length_nil,List.length_cons] at hlen
      rw [lexLt_nil_cons]
      exact (decide_eq_true (by omega)).symm
    | cons a t hv=>
     cases hwi with
     | nil=>
      simp only [List.length_nil,List.length_cons] at hlen
      rw [lexLt_cons_nil]
      exact (decide_eq_false (by omega)).symm
     | cons c u hw=>
      rw [List.zip_cons_cons] at hz
      cases hz
   rw [hv] at hR
   wp_walk
   exact ⟨_,rfl,by simpa [Builtin.Tuple.tupleCompareSizes] using hR⟩
  case h=>
   exact ⟨rfl,rfl,items.toList,items2.toList,ns,ms,rfl,hi,hj,by omega,h⟩
end
section
variable {prog:Program}{w:World}{A:Around}{E:Value->Shared->Prop}{s:Shared}
theorem lt_tupInts {l b:Addr}{items items2:Array Value}{ns ms:List Int}{Q:Value->Shared->Prop}(hl:IsTup s.heap l items)(hb:IsTup s.heap b items2)(hi:IntsAre items.toList ns)(hj:IntsAre items2.toList ms)
  (hu:A.units < cLine)(h:Q (.bool (lexLt ns ms)) s):wpAny (model prog w) A (compareOp .Lt (.ref l) (.ref b)) Q E s:=by
 obtain ⟨⟨cls,dd,data,sl⟩,ho,hc,n,hd⟩:=id hl
 obtain ⟨⟨cls2,dd2,data2,sl2⟩,ho2,hc2,n2,hd2⟩:=id hb
 simp only at hc hd hc2 hd2
 subst hc hd hc2 hd2
 exact richCompare_meets_room (op:=.Lt) ⟨_,ho,rfl⟩ ⟨_,ho2,rfl⟩ PySem.F.slot_tuple_lt PySem.F.entry_tuple_lt (PySem.F.args_tuple_lt_2 _ _) (rh l b items items2 n n2 dd dd2 sl sl2 ns ms hi hj)
  ⟨ho,ho2,show Value.bool (lexLt ns ms)≠Value.notImplemented/\Q (.bool (lexLt ns ms)) s from ⟨(fun x=>nomatch x),h⟩⟩ hu
def sIx (n d:Nat):Option Int->Nat
 | none=>d
 | some v=>if v < 0 then (v+(n:Int)).toNat else min v.toNat n
theorem sIx_none (n d:Nat):sIx n d none=d:=rfl
theorem sIx_nat (n d k:Nat):sIx n d (some (k:Int))=min k n:=by
 show (if (k:Int) < 0 then ((k:Int)+(n:Int)).toNat else min (k:Int).toNat n)=min k n
 rw [if_neg (by omega),Int.toNat_natCast]
theorem aeZ (n d:Nat)(hd:d<=n)(o:Option Int):sIx n d o<=n:=by
 cases o with
 | none=>exact hd
 | some v=>
  show (if v < 0 then (v+(n:Int)).toNat else min v.toNat n)<=n
  by_cases hv:v < 0
  ·rw [if_pos hv];omega
  ·rw [if_neg hv];exact Nat.min_le_right _ _
theorem yx (v:Int)(n d:Nat):(if v < 0 then max (v+(n:Int)) 0 else min v (n:Int))=((sIx n d (some v):Nat):Int):=by
 show (if v < 0 then max (v+(n:Int)) 0 else min v (n:Int))=(((if v < 0 then (v+(n:Int)).toNat else min v.toNat n):Nat):Int)
 by_cases hv:v < 0
 ·simp only [if_pos hv];omega
 ·simp only [if_neg hv];omega
theorem xt (lo hi:Option Int)(n:Nat):Builtin.Slice.sliceAdjust lo hi 1 (n:Int)=(((sIx n 0 lo:Nat):Int),((sIx n n hi:Nat):Int)):=by
 have h1:¬ ((1:Int) < 0):=by omega
 unfold Builtin.Slice.sliceAdjust
 simp only [h1,if_false]
 refine Prod.ext ?_ ?_
 ·cases lo with
  | none=>rfl
  | some v=>exact yx v n 0
 ·cases hi with
  | none=>rfl
  | some v=>exact yx v n n
theorem xC (i j:Nat):Builtin.Slice.slicePlaces (i:Int) (j:Int) 1=j - i:=by
 unfold Builtin.Slice.slicePlaces
 have h1:(1:Int) > 0:=by omega
 simp only [h1,if_true,Int.ediv_one]
 split<;>omega
theorem pp {v:Value}{o:Option Int}{Q:Option Int->Shared->Prop}(p:IsPart v o)(h:Q o s):wpAny (model prog w) A (Builtin.Slice.slicePartIndex v) Q E s:=by
 cases p with
 | none=>exact slicePart_none h
 | int i t=>exact slicePart_int h
theorem mB {sl:Addr}{vl vu:Value}{lo hi:Option Int}{n:Nat}{Q:Int×Int×Nat->Shared->Prop}(hs:s.heap.IsSliceOf sl vl vu .none)(pl:IsPart vl lo)(pu:IsPart vu hi)
  (h:Q (((sIx n 0 lo:Nat):Int),1,sIx n n hi - sIx n 0 lo) s):wpAny (model prog w) A (Builtin.Slice.sliceApplied (.ref sl) (pure (n:Int))) Q E s:=by
 obtain ⟨os,hos,hcs,hds⟩:=id hs
 unfold Builtin.Slice.sliceApplied Builtin.Slice.sliceFields
 refine wpAny_bind (wpAny_bind (wpAny_field hos hds (x:=vl) rfl (wpAny_bind (wpAny_field hos hds (x:=vu) rfl (wpAny_bind (wpAny_field hos hds (x:=.none) rfl (wpAny_pure ?_)))))))
 refine wpAny_bind (slicePart_none ?_)
 show wpAny _ _ (if ((1:Int) == 0)=true then _ else _) _ _ s
 rw [if_neg (by decide)]
 refine wpAny_bind (pp pl (wpAny_bind (pp pu (wpAny_bind (wpAny_pure ?_)))))
 show wpAny _ _ (match Builtin.Slice.sliceAdjust lo hi 1 (n:Int) with | (lo,hi)=>pure (lo,(1:Int),Builtin.Slice.slicePlaces lo hi 1)) _ _ s
 rw [xt lo hi n]
 show wpAny _ _ (pure (((sIx n 0 lo:Nat):Int),(1:Int),Builtin.Slice.slicePlaces ((sIx n 0 lo:Nat):Int) ((sIx n n hi:Nat):Int) 1)) _ _ s
 rw [xC]
 exact wpAny_pure h
theorem abZ (xs:Array Value)(i k:Nat):((List.range k).filterMap fun (m:Nat)=>xs[((i:Int)+(m:Int) * 1).toNat]?).toArray=((xs.toList.drop i).take k).toArray:=by
 have e:(fun (m:Nat)=>xs[((i:Int)+(m:Int) * 1).toNat]?)=fun m=>xs[i+m]?:=by
  funext m
  have:((i:Int)+(m:Int) * 1).toNat=i+m:=by omega
  rw [this]
 rw [e]
 have:=pick_run xs i k
 rw [List.filterMap_map] at this
 have e2:((fun x=>xs[x]?) ∘ fun x=>i+x)=fun m=>xs[i+m]?:=rfl
 rw [e2] at this
 rw [this]
theorem getItem_tuple_cut {t sl:Addr}{items:Array Value}{vl vu:Value}{lo hi:Option Int}{Q:Value->Shared->Prop}(ht:IsTup s.heap t items)(hs:s.heap.IsSliceOf sl vl vu .none)(pl:IsPart vl lo)(pu:IsPart vu hi)
  (hw:¬ (sIx items.size 0 lo=0/\sIx items.size items.size hi=items.size))
  (h:Q (.ref s.heap.objs.size) {s with heap:=s.heap.push {cls:=.type "tuple",data:=.seq ((items.toList.drop (sIx items.size 0 lo)).take (sIx items.size items.size hi - sIx items.size 0 lo)).toArray}})
  (hsz:items.size<=sizeLine):wpAny (model prog w) A (getItem (.ref t) (.ref sl)) Q E s:=by
 have htake:sizeOk (.seq ((items.toList.drop (sIx items.size 0 lo)).take (sIx items.size items.size hi - sIx items.size 0 lo)).toArray):=by
  show ((items.toList.drop (sIx items.size 0 lo)).take (sIx items.size items.size hi - sIx items.size 0 lo)).toArray.size<=sizeLine
  rw [List.size_toArray,List.length_take,List.length_drop,Array.length_toList]
  omega
 have hj:sIx items.size items.size hi<=items.size:=aeZ _ _ (Nat.le_refl _) hi
 obtain ⟨os,hos,hcs,hds⟩:=id hs
 have hTs:s.TypeIs (.ref sl) "slice":=⟨os,hos,hcs⟩
 unfold getItem
 try with_reducible refine wpAny_holding ?_
 first | refine wpAny_bind (wpAny_pure ?_) | skip
 refine wpAny_bind (wpAny_sequenceKey ht.typeIs (by decide) ?_)
 refine wpAny_bind (wpAny_callSpecial?_slot (name:=Str.ofString "__getitem__") ht.typeIs PyProof.Rows.slot_tuple_getitem
  (wpAny_call_entry PyProof.Rows.slot_tuple_getitem ht.typeIs entry_tuple_getitem ?_ (args_tuple_getitem _ _)))
 show wpAny _ _ (Builtin.Tuple.tupleItemsOf (.ref t) >>= _) _ _ s
 refine wpAny_bind (tupleItemsOf_ ht ?_)
 refine wpAny_bind (wpAny_typeOf hTs ?_)
 rw [if_pos (by decide)]
 refine wpAny_bind (mB hs pl pu ?_)
 have hno:¬ ((((sIx items.size 0 lo:Nat):Int) == 0&&(1:Int) == 1&&(sIx items.size items.size hi - sIx items.size 0 lo) == items.size)=true):=by
  intro q
  rw [Bool.and_eq_true,Bool.and_eq_true] at q
  have q1:((sIx items.size 0 lo:Nat):Int)=0:=eq_of_beq q.1.1
  have q2:sIx items.size items.size hi - sIx items.size 0 lo=items.size:=eq_of_beq q.2
  exact hw ⟨by omega,by omega⟩
 show wpAny _ _ (if (((sIx items.size 0 lo:Nat):Int) == 0&&(1:Int) == 1&&(sIx items.size items.size hi - sIx items.size 0 lo) == items.size)=true then _ else _) _ _ s
 rw [if_neg hno,abZ]
 first
  | exact wpAny_bind (m:=Builtin.Tuple.tupleExact _) (wpAny_newObj_type (wpAny_pure ⟨_,rfl,wpAny_pure h⟩) htake)
  | exact wpAny_bind (m:=Builtin.Tuple.tupleExact _) (wpAny_newObj_type (wpAny_bind (wpAny_pure (wpAny_pure ⟨_,rfl,wpAny_pure h⟩))) htake)
  | exact wpAny_bind (wpAny_bind (m:=Builtin.Tuple.tupleExact _) (wpAny_newObj_type (wpAny_pure (wpAny_pure ⟨_,rfl,wpAny_pure h⟩)) htake))
  | exact wpAny_bind (wpAny_bind (m:=Builtin.Tuple.tupleExact _) (wpAny_newObj_type (wpAny_pure ⟨_,rfl,wpAny_pure h⟩) htake))
end
end HT
namespace L2
open PySem PySem.Spec PyProof.Rows
abbrev TO:=St->Hp->(Option Int->Hp->Prop)->Prop
def PO (X:Cx)(e:Option Expr)(t:TO):Prop:=
 ∀ (pins:List (Addr×Obj)) (s:Shared) (σ:St) (H:Hp) (Q:Option Int->Hp->Prop),Inv X pins σ H s->t σ H Q->
  wpAny (model X.prog X.w) X.A (evalPart e X.env) (fun u s'=>∃ o H',Inv X pins σ H' s'/\IsPart u o/\Q o H') X.xe s
def acm:TO:=fun _ H Q=>Q none H
def afs (t:TE):TO:=fun σ H Q=>t σ H fun x H1=>∃ i,x=.int i/\Q (some i) H1
theorem iz {ns:List Int}:∀ {us:List Value},Vals (ns.map V.int) us->IntsAre us ns:=by
 induction ns with
 | nil=>intro us r;rw [List.map_nil] at r;cases r;exact .nil
 | cons n ns ih=>
  intro us r
  rw [List.map_cons] at r
  cases r with
  | cons r1 r2=>
   obtain ⟨t,e⟩:=r1
   subst e
   exact .cons n t (ih r2)
section
variable {X:Cx}{e:Expr}{te:TE}{lo hi:Option Expr}{tl th:TO}{pos p2:Pos}
theorem acP:PO X none acm:=by
 intro pins s σ H Q I h
 rw [evalPart_none]
 exact wpAny_pure ⟨none,H,I,.none,h⟩
theorem adf (h:PE X e te):PO X (some e) (afs te):=by
 intro pins s σ H Q I hw
 rw [evalPart_some]
 refine thn (h pins s σ H _ I hw) fun u s1 ⟨x,H1,I1,r1,q1⟩=>?_
 obtain ⟨i,rfl,q⟩:=q1
 obtain ⟨t,rfl⟩:=r1
 exact ⟨some i,H1,I1,.int i t,q⟩
def SlR (X:Cx)(r:V->Option Int->Option Int->Hp->VK->Prop):Prop:=
 ∀ (pins:List (Addr×Obj)) (s:Shared) (σ:St) (H:Hp) (x:V) (v vl vu:Value) (lo hi:Option Int) (sl:Addr) (Q:VK),Inv X pins σ H s->bA x v->s.heap.IsSliceOf sl vl vu .none->IsPart vl lo->IsPart vu hi->r x lo hi H Q->
  ∃ T id,typeLookup (.type T) "__getitem__"=pure (some (.builtin id))/\s.TypeIs v T/\wpAny (model X.prog X.w) X.A (getItem v (.ref sl)) (EP X pins σ Q) X.xe s
def tSl (r:V->Option Int->Option Int->Hp->VK->Prop)(te:TE)(tl th:TO):TE:=fun σ H Q=>te σ H fun x H1=>tl σ H1 fun l H2=>th σ H2 fun u H3=>r x l u H3 Q
theorem uX {r:V->Option Int->Option Int->Hp->VK->Prop}(hr:SlR X r)(he:PE X e te)(hl:PO X lo tl)(hu:PO X hi th):PE X (.Subscript e (.Slice lo hi none p2) pos) (tSl r te tl th):=by
 intro pins s σ H Q I h
 refine Subscript_ (thn (he pins s σ H _ I h) fun v s1 ⟨x,H1,I1,r1,q1⟩=>?_)
 refine wpAny_Slice (thn (hl pins s1 σ H1 _ I1 q1) fun vl s2 ⟨l,H2,I2,pl,q2⟩=>thn (hu pins s2 σ H2 _ I2 q2) fun vu s3 ⟨u,H3,I3,pu,q3⟩=>?_)
 rw [evalPart_none]
 refine wpAny_pure ?_
 have I4:Inv X pins σ H3 {s3 with heap:=s3.heap.push {cls:=.type "slice",data:=.fields #[vl,vu,.none]}}:=I3.kept (t':=s3.toks) fun b ob q=>Heap.get?_push_of_some _ q
 obtain ⟨T,id,hT,ht,hg⟩:=hr pins {s3 with heap:=s3.heap.push {cls:=.type "slice",data:=.fields #[vl,vu,.none]}} σ H3 x v vl vu l u s3.heap.objs.size Q I4 r1 (Heap.IsSliceOf.new ..) pl pu q3
 show wpAny (model X.prog X.w) X.A (subscriptTail e (.Slice lo hi none p2) v (.ref s3.heap.objs.size)) (EP X pins σ Q) X.xe {s3 with heap:=s3.heap.push {cls:=.type "slice",data:=.fields #[vl,vu,.none]}}
 exact tail_any (ops:=[.ref s3.heap.objs.size,v]) ht hT hg (by with_unfolding_all rfl)
def wo (xs:List V)(lo hi:Option Int):List V:=(xs.drop (HT.sIx xs.length 0 lo)).take (HT.sIx xs.length xs.length hi - HT.sIx xs.length 0 lo)
theorem nl (xs:List V)(lo hi:Option Int):(wo xs lo hi).length<=xs.length:=by
 unfold wo
 rw [List.length_take,List.length_drop]
 omega
def af0 (K:PySem.W.Frag):V->Option Int->Option Int->Hp->VK->Prop:=fun x lo hi H Q=>∃ a xs,x=.ref a/\SqT K H a xs/\
 ¬ (HT.sIx xs.length 0 lo=0/\HT.sIx xs.length xs.length hi=xs.length)/\∀ p,H p=none->Q (.ref p) (upd H p (.tup (wo xs lo hi)))
theorem aeA:SlR X (af0 X.K):=by
 intro pins s σ H x v vl vu lo hi sl Q I rx hs pl pu h
 obtain ⟨a,xs,rfl,hx,hw,q⟩:=h
 cases rx
 obtain ⟨its,r,ht,hz⟩:=I.tuple hx
 have hlen:its.toArray.size=xs.length:=by rw [List.size_toArray];exact r.length.symm
 refine ⟨"tuple",_,PyProof.Rows.slot_tuple_getitem.lookup,ht.typeIs,?_⟩
 refine HT.getItem_tuple_cut ht hs pl pu (by rw [hlen];exact hw) ?_ (by rw [hlen];exact hz)
 rw [hlen]
 refine ⟨.ref s.heap.objs.size,_,I.laid (t':=s.toks) (o:=.tup (wo xs lo hi)) (fun b ob q=>Heap.get?_push_of_some _ q) (Nat.le_refl _) ?_,rfl,q _ (I.hok.fresh (Nat.le_refl _))⟩
 exact ⟨Nat.le_trans (nl xs lo hi) hz,_,(r.drop (HT.sIx xs.length 0 lo)).take (HT.sIx xs.length xs.length hi - HT.sIx xs.length 0 lo),IsTup.new _ _⟩
end
end L2
namespace L2
open PySem PySem.Spec PyProof.Rows
def ixN (n:Nat)(i:Int):Option Nat:=if 0<=i then (if i < n then some i.toNat else none) else if -(n:Int)<=i then some (i+n).toNat else none
def atI {α:Type}(xs:List α)(i:Int):Option α:=(ixN xs.length i).bind fun j=>xs[j]?
theorem yS {n:Nat}{i:Int}{j:Nat}(h:ixN n i=some j):seqIndex? i n=some j/\j < n/\-(n:Int)<=i/\i < n:=by
 unfold ixN at h
 by_cases h0:0<=i
 ·rw [if_pos h0] at h
  by_cases h1:i < n
  ·rw [if_pos h1] at h
   have e:i.toNat=j:=Option.some.inj h
   exact ⟨by rw [seqIndex_of h0 h1,e],by omega,by omega,h1⟩
  ·rw [if_neg h1] at h;cases h
 ·rw [if_neg h0] at h
  by_cases h1:-(n:Int)<=i
  ·rw [if_pos h1] at h
   have e:(i+n).toNat=j:=Option.some.inj h
   exact ⟨by rw [seqIndex_neg (by omega) h1,e],by omega,h1,by omega⟩
  ·rw [if_neg h1] at h;cases h
theorem xW {α:Type}{xs:List α}{i:Int}{v:α}(h:atI xs i=some v):∃ j,seqIndex? i xs.length=some j/\xs[j]?=some v/\j < xs.length/\-(xs.length:Int)<=i/\i < xs.length:=by
 unfold atI at h
 cases e:ixN xs.length i with
 | none=>rw [e] at h;cases h
 | some j=>
  rw [e] at h
  obtain ⟨h1,h2,h3,h4⟩:=yS e
  exact ⟨j,h1,h,h2,h3,h4⟩
def oI (b:Expr):Prop:=∀ o i,subscripted b false o i=operate [o,i] (getItem o i)
def IxR (X:Cx)(r:R2):Prop:=
 ∀ (value slice:Expr) (pins:List (Addr×Obj)) (s:Shared) (σ:St) (H:Hp) (x y:V) (v u:Value) (Q:VK),Inv X pins σ H s->bA x v->bA y u->r x y H Q->
  subscripted slice false v u=operate [v,u] (getItem v u)->wpAny (model X.prog X.w) X.A (subscriptTail value slice v u) (EP X pins σ Q) X.xe s
def MtR (X:Cx)(id:String)(r:V->List V->Hp->VK->Prop):Prop:=
 ∀ (pins:List (Addr×Obj)) (s:Shared) (σ:St) (H:Hp) (x:V) (xs:List V) (v:Value) (us:List Value) (Q:VK),Inv X pins σ H s->bA x v->Vals xs us->r x xs H Q->
  wpAny (model X.prog X.w) X.A (call (.builtin id) (v::us)) (EP X pins σ Q) X.xe s
section
variable {X:Cx}{a b:Expr}{ta tb:TE}{pos:Pos}
theorem IxR.or {r r':R2}(h:IxR X r)(h':IxR X r'):IxR X (fun x y H Q=>r x y H Q\/r' x y H Q):=by
 intro value slice pins s σ H x y v u Q I rx ry q hs
 rcases q with q | q
 ·exact h value slice pins s σ H x y v u Q I rx ry q hs
 ·exact h' value slice pins s σ H x y v u Q I rx ry q hs
theorem yd {r:R2}(hr:IxR X r)(ha:PE X a ta)(hb:PE X b tb)(hs:oI b):PE X (.Subscript a b pos) (tOp r ta tb):=by
 intro pins s σ H Q I h
 exact Subscript_ (aeq ha hb I h fun v u s2 x y H2 I2 rx ry q=>hr a b pins s2 σ H2 x y v u Q I2 rx ry q (hs _ _))
def afG (K:PySem.W.Frag):R2:=fun x y H Q=>∃ p xs i v,x=.ref p/\y=.int i/\SqL K H p xs/\atI xs i=some v/\Q v H
def afR (K:PySem.W.Frag):R2:=fun x y H Q=>∃ p xs i v,x=.ref p/\y=.int i/\SqT K H p xs/\atI xs i=some v/\Q v H
theorem acK:IxR X (afG X.K):=by
 intro value slice pins s σ H x y v u Q I rx ry h hs
 obtain ⟨p,xs,i,z,rfl,rfl,hq,he,q⟩:=h
 cases rx
 obtain ⟨t,rfl⟩:=ry
 obtain ⟨its,r,pl,hz⟩:=I.list hq
 obtain ⟨j,h1,h2,h3,h4,h5⟩:=xW he
 obtain ⟨w,ew,rw'⟩:=r.get h2
 have hl:=r.length
 have hn:=pQ
 have fin:EP X pins σ Q w s:=⟨z,H,I,rw',q⟩
 by_cases h0:0<=i
 ·have hj:i.toNat=j:=by
   rw [seqIndex_of h0 h5] at h1
   exact Option.some.inj h1
  exact item_listR pl.isList h0 (by omega) (by rw [hj];simpa using ew) fin hs
 ·have hj:(i+(its.toArray.size:Int)).toNat=j:=by
   rw [seqIndex_neg (by omega) h4] at h1
   rw [List.size_toArray,<-hl]
   exact Option.some.inj h1
  exact subscriptTail_builtinR (x:=w) pl.isList.typeIs slot_list_getitem.lookup
   (wpAny_getItem_list_neg (Q:=fun r s'=>r=w/\EP X pins σ Q r s') pl.isList (by omega) (by rw [List.size_toArray]<;>omega) (by omega) (by rw [hj];simpa using ew) ⟨rfl,fin⟩) hs
theorem uo:IxR X (afR X.K):=by
 intro value slice pins s σ H x y v u Q I rx ry h hs
 obtain ⟨p,xs,i,z,rfl,rfl,hq,he,q⟩:=h
 cases rx
 obtain ⟨t,rfl⟩:=ry
 obtain ⟨its,r,pl,hz⟩:=I.tuple hq
 obtain ⟨j,h1,h2,h3,h4,h5⟩:=xW he
 obtain ⟨w,ew,rw'⟩:=r.get h2
 have hl:=r.length
 have hn:=pQ
 have fin:EP X pins σ Q w s:=⟨z,H,I,rw',q⟩
 exact subscriptTail_builtinR (x:=w) pl.typeIs slot_tuple_getitem.lookup
  (getItem_tuple (j:=j) (Q:=fun r s'=>r=w/\EP X pins σ Q r s') pl (by omega) (by omega) (by rw [List.size_toArray,<-hl];exact h1) (by simpa using ew) ⟨rfl,fin⟩) hs
theorem xD (its:List Value)(n j:Nat)(u:Value):Obj.mapSeq (·.setIfInBounds j u) {cls:=.type "list",data:=.seq its.toArray n}={cls:=.type "list",data:=.seq (its.set j u).toArray n}:=by
 simp [Obj.mapSeq]
theorem Inv.lst {pins:List (Addr×Obj)}{σ:St}{H:Hp}{s:Shared}{p:Addr}{xs:List V}(I:Inv X pins σ H s)(h:H p=some (.lst xs)):
  ∃ (its:List Value) (n:Nat),Vals xs its/\s.heap.get? p=some {cls:=.type "list",data:=.seq its.toArray n}/\xs.length<=sizeLine:=by
 obtain ⟨z,its,n,r,e⟩:=I.hok p _ h
 exact ⟨its,n,r,e,z⟩
theorem Inv.lstUpd {pins:List (Addr×Obj)}{σ:St}{H:Hp}{s:Shared}{p:Addr}{xs ys:List V}{its its':List Value}{n n':Nat}{f:Obj->Obj}(I:Inv X pins σ H s)(h:H p=some (.lst xs))
  (ho:s.heap.get? p=some {cls:=.type "list",data:=.seq its.toArray n})(hf:f {cls:=.type "list",data:=.seq its.toArray n}={cls:=.type "list",data:=.seq its'.toArray n'})(r:Vals ys its')(hz:ys.length<=sizeLine)(t:Nat):
  Inv X pins σ (upd H p (.lst ys)) {s with heap:=s.heap.update p f,toks:=t}:=by
 have e:(s.heap.update p f).get? p=some {cls:=.type "list",data:=.seq its'.toArray n'}:=by
  rw [Heap.get?_update_self f ho (by rw [hf]<;>rfl),hf]
 refine I.write (x:=p) (e:=p) (by rw [h];trivial) (.inl rfl) (fun b u hb q=>(Heap.get?_update_other _ _ (Ne.symm hb)).trans q) ⟨_,e⟩ ?_
 exact ⟨hz,its',n',r,e⟩
def afa:V->V->V->Hp->(Hp->Prop)->Prop:=fun o i v H Q=>∃ p xs k j,o=.ref p/\i=.int k/\H p=some (.lst xs)/\ixN xs.length k=some j/\Q (upd H p (.lst (xs.set j v)))
theorem aa3:afd X afa:=by
 intro pins s σ H o i v ov iv u Q I ro ri rv h
 obtain ⟨p,xs,k,j,rfl,rfl,hp,hj,q⟩:=h
 cases ro
 obtain ⟨t,rfl⟩:=ri
 obtain ⟨its,n,r,ho,hz⟩:=I.lst hp
 obtain ⟨h1,h2,h3,h4⟩:=yS hj
 have hl:=r.length
 have hn:=pQ
 have I':Inv X pins σ (upd H p (.lst (xs.set j v))) {s with heap:=s.heap.update p (Obj.mapSeq (·.setIfInBounds j u))}:=
  I.lstUpd hp ho (xD its n j u) (r.set rv j) (by rw [List.length_set];exact hz) s.toks
 by_cases h0:0<=k
 ·have hk:k.toNat=j:=by
   rw [seqIndex_of h0 h4] at h1
   exact Option.some.inj h1
  exact PySem.W.ki_setAt ho h0 (by omega) (by rw [List.size_toArray,<-hl];exact h4) (by rw [hk];exact ⟨_,I',q⟩)
 ·have hk:(k+(its.toArray.size:Int)).toNat=j:=by
   rw [seqIndex_neg (by omega) h3] at h1
   rw [List.size_toArray,<-hl]
   exact Option.some.inj h1
  exact PySem.W.ki_setBack ho (by omega) (by rw [List.size_toArray,<-hl];exact h3) (by omega) (by rw [hk];exact ⟨_,I',q⟩)
theorem tU (lo hi:Option Int)(n:Nat):(sliceBounds lo hi none n).1=((HT.sIx n 0 lo:Nat):Int)/\(sliceBounds lo hi none n).2.1=((HT.sIx n n hi:Nat):Int)/\(sliceBounds lo hi none n).2.2=1:=by
 refine ⟨?_,?_,rfl⟩
 ·cases lo with
  | none=>simp [sliceBounds,HT.sIx]
  | some i=>
   simp only [sliceBounds,HT.sIx,Option.getD_none,show (1:Int) > 0 by decide,if_true]
   by_cases h:i < 0
   ·simp only [h,if_true]<;>omega
   ·simp only [h,if_false]<;>omega
 ·cases hi with
  | none=>simp [sliceBounds,HT.sIx]
  | some i=>
   simp only [sliceBounds,HT.sIx,Option.getD_none,show (1:Int) > 0 by decide,if_true]
   by_cases h:i < 0
   ·simp only [h,if_true]<;>omega
   ·simp only [h,if_false]<;>omega
theorem rP (its:List Value)(lo hi:Option Int):slicePick its.toArray lo hi none=((its.drop (HT.sIx its.length 0 lo)).take (HT.sIx its.length its.length hi - HT.sIx its.length 0 lo)).toArray:=by
 obtain ⟨h1,h2,h3⟩:=tU lo hi its.toArray.size
 unfold slicePick
 rw [h1,h2,h3]
 simp only [sliceRange_one,pick_run,List.size_toArray]<;>rfl
def afJ (K:PySem.W.Frag):V->Option Int->Option Int->Hp->VK->Prop:=fun x lo hi H Q=>∃ a xs,x=.ref a/\SqL K H a xs/\∀ p,H p=none->Q (.ref p) (upd H p (.lst (wo xs lo hi)))
theorem ac0:SlR X (afJ X.K):=by
 intro pins s σ H x v vl vu lo hi sl Q I rx hs pl pu h
 obtain ⟨a,xs,rfl,hx,q⟩:=h
 cases rx
 obtain ⟨its,r,ht,hz⟩:=I.list hx
 have hlen:=r.length
 refine ⟨"list",_,slot_list_getitem.lookup,ht.isList.typeIs,?_⟩
 refine wpAny_getItem_list_slice ht.isList hs pl pu .none (by simp) ?_ (by rw [List.size_toArray]<;>omega)
 rw [rP,<-hlen]
 refine ⟨.ref s.heap.objs.size,_,I.laid (t':=s.toks) (o:=.lst (wo xs lo hi)) (fun b ob q=>Heap.get?_push_of_some _ q) (Nat.le_refl _) ?_,rfl,q _ (I.hok.fresh (Nat.le_refl _))⟩
 exact ⟨Nat.le_trans (nl xs lo hi) hz,_,0,(r.drop (HT.sIx xs.length 0 lo)).take (HT.sIx xs.length xs.length hi - HT.sIx xs.length 0 lo),Heap.get?_push_size _ rfl⟩
theorem tK:j3 X (.builtin "len") (fun xs H Q=>∃ p ys,xs=[.ref p]/\(SqL X.K H p ys\/SqT X.K H p ys)/\Q (.int ys.length) H):=by
 intro pins s σ H xs us Q I r h
 obtain ⟨p,ys,rfl,hq,q⟩:=h
 obtain ⟨u,rfl,rx⟩:=vals1 r
 cases rx
 have hn:=pQ
 rcases hq with hq | hq
 ·obtain ⟨its,r',pl,hz⟩:=I.list hq
  have hlen:=r'.length
  exact Calls.call_len_list pl.isList (by simp only [List.size_toArray]<;>omega) ⟨.int ys.length,H,I.tok _,⟨s.toks+1,by rw [List.size_toArray,hlen]⟩,q⟩
 ·obtain ⟨its,r',pl,hz⟩:=I.tuple hq
  have hlen:=r'.length
  exact len_tuple pl (by simp only [List.size_toArray]<;>omega) ⟨.int ys.length,H,I.tok _,⟨s.toks+1,by rw [List.size_toArray,hlen]⟩,q⟩
theorem sQ:j3 X (.type "list") (fun xs H Q=>∃ p ys,xs=[.ref p]/\(SqL X.K H p ys\/SqT X.K H p ys)/\∀ l,H l=none->Q (.ref l) (upd H l (.lst ys))):=by
 intro pins s σ H xs us Q I r h
 obtain ⟨p,ys,rfl,hq,q⟩:=h
 obtain ⟨u,rfl,rx⟩:=vals1 r
 cases rx
 have fin:∀ (its:List Value),Vals ys its->ys.length<=sizeLine->∀ (h':Heap) (c':Nat),(∀ b o',s.heap.get? b=some o'->h'.get? b=some o')->
   h'.get? s.heap.objs.size=some {cls:=.type "list",dict:=none,data:=.seq its.toArray c',slots:=#[]}->EP X pins σ Q (.ref s.heap.objs.size) {s with heap:=h'}:=fun its r' hz h' c' kp e=>
  ⟨.ref s.heap.objs.size,_,I.laid (t':=s.toks) kp (Nat.le_refl _) (show dH X.prog X.w _ h' _ (.lst ys) from ⟨hz,its,c',r',e⟩),rfl,q _ (I.hok.fresh (Nat.le_refl _))⟩
 rcases hq with hq | hq
 ·obtain ⟨its,r',pl,hz⟩:=I.list hq
  have hlen:=r'.length
  obtain ⟨o,ho,hc,n,hd⟩:=pl.isList
  exact call_list_seq p (.inl rfl) ho hc hd (fun h' c' kp e=>fin its r' hz h' c' kp e) (by simp only [List.size_toArray]<;>omega)
 ·obtain ⟨its,r',pl,hz⟩:=I.tuple hq
  have hlen:=r'.length
  obtain ⟨o,ho,hc,n,hd⟩:=pl
  exact call_list_seq p (.inr rfl) ho hc hd (fun h' c' kp e=>fin its r' hz h' c' kp e) (by simp only [List.size_toArray]<;>omega)
theorem rS:j3 X (.type "tuple") (fun xs H Q=>∃ p ys,xs=[.ref p]/\((SqL X.K H p ys/\∀ l,H l=none->Q (.ref l) (upd H l (.tup ys)))\/(SqT X.K H p ys/\Q (.ref p) H))):=by
 intro pins s σ H xs us Q I r h
 obtain ⟨p,ys,rfl,h⟩:=h
 obtain ⟨u,rfl,rx⟩:=vals1 r
 cases rx
 rcases h with ⟨hq,q⟩ | ⟨hq,q⟩
 ·obtain ⟨its,r',pl,hz⟩:=I.list hq
  have hlen:=r'.length
  refine call_tuple_list pl.isList (fun h' kp=>?_) (by simp only [List.size_toArray]<;>omega)
  have I1:Inv X pins σ H {s with heap:=h'}:=I.kept (t':=s.toks) kp
  have I2:Inv X pins σ (upd H h'.objs.size (.tup ys)) {s with heap:=h'.push {cls:=.type "tuple",data:=.seq its.toArray}}:=
   I1.laid (t':=s.toks) (fun b o e=>Heap.get?_push_of_some _ e) (Nat.le_refl _) (show dH X.prog X.w _ _ _ (.tup ys) from ⟨hz,its,r',IsTup.new _ _⟩)
  exact ⟨.ref h'.objs.size,_,I2,rfl,q _ (I1.hok.fresh (Nat.le_refl _))⟩
 ·obtain ⟨its,r',pl,hz⟩:=I.tuple hq
  exact call_tuple_same pl ⟨.ref p,H,I,rfl,q⟩
def tyV (K:PySem.W.Frag)(T:String)(x:V)(H:Hp):Prop:=match x with
 | .str _=>T="str"
 | .int _=>T="int"
 | .ref p=>(T="list"/\∃ xs,SqL K H p xs)\/(T="tuple"/\∃ o,K.lookup p=some o/\o.cls=.type "tuple"/\o.dict=none) ∨
   (T="dict"/\((∃ kvs,H p=some (.dK kvs))\/∃ kvs,H p=some (.dT kvs)))\/(T="set"/\∃ S n,H p=some (.set S n))
 | _=>False
theorem aet {pins:List (Addr×Obj)}{σ:St}{H:Hp}{s:Shared}{T:String}{x:V}{v:Value}(I:Inv X pins σ H s)(r:bA x v)(ty:tyV X.K T x H):
  s.TypeIs v T/\∀ a,v=.ref a->∃ ob,s.heap.get? a=some ob/\ob.dict=none:=by
 cases x with
 | str z=>
  obtain ⟨t,rfl⟩:=r
  cases (show T="str" from ty)
  exact ⟨typeIs_str s z t,fun _ e=>nomatch e⟩
 | int i=>
  obtain ⟨t,rfl⟩:=r
  cases (show T="int" from ty)
  exact ⟨typeIs_int s i t,fun _ e=>nomatch e⟩
 | ref p=>
  cases r
  rcases ty with ⟨rfl,xs,hq⟩ | ⟨rfl,o,hk,hc,hd⟩ | ⟨rfl,hk⟩ | ⟨rfl,S,n,hk⟩
  ·obtain ⟨its,_,pl,_⟩:=I.list hq
   refine ⟨pl.isList.typeIs,fun a e=>?_⟩
   cases e
   obtain ⟨o,n,e,c,hd,_⟩:=pl
   exact ⟨o,e,hd⟩
  ·refine ⟨⟨o,I.kIn p o hk,hc⟩,fun a e=>?_⟩
   cases e
   exact ⟨o,I.kIn _ o hk,hd⟩
  ·have z:∃ o,s.heap.get? p=some o/\o.ExactDict:=by
    rcases hk with ⟨kvs,hk⟩ | ⟨kvs,hk⟩
    ·obtain ⟨_,_,_,_,o,_,_,e,ex,_⟩:=I.hok p _ hk
     exact ⟨o,e,ex⟩
    ·obtain ⟨_,_,_,_,o,_,_,e,ex,_⟩:=I.hok p _ hk
     exact ⟨o,e,ex⟩
   obtain ⟨o,e,ex⟩:=z
   refine ⟨⟨o,e,ex.1⟩,fun a e2=>?_⟩
   cases e2
   exact ⟨o,e,ex.2.1⟩
  ·obtain ⟨o,_,_,_,e,ex,_⟩:=I.hok p _ hk
   refine ⟨⟨o,e,ex.1⟩,fun a e2=>?_⟩
   cases e2
   exact ⟨o,e,ex.2.1⟩
 | _=>exact False.elim ty
def tBM (K:PySem.W.Frag)(T:String)(r:V->List V->Hp->VK->Prop)(to:TE)(t:TA):TE:=fun σ H Q=>to σ H fun x H1=>tyV K T x H1/\t σ H1 fun xs H2=>r x xs H2 Q
variable {o e:Expr}{es:List Expr}{to:TE}{t:TA}{name:Str}{apos cpos:Pos}{T id:String}{r:V->List V->Hp->VK->Prop}
theorem adJ (pa:PlainAttrs T)(slot:Slot T name id)(hty:typeOf (.builtin id)=pure (.type "method_descriptor"))(hm:MtR X id r)(ho:PE X o to)(ha:PA X (e::es) t)
  (hbase:attributeBase o name X.env (eval o X.env)=eval o X.env:=by rfl)
  (hfew:((backTo cpos (starEach (e::es) X.env)).all (fun x=>!x.1)&&(backToKw cpos (keywordEach [] X.env)).all (fun x=>x.1.isSome)
   && decide ((e::es).length+([]:List Keyword).length+(if ([]:List Keyword).isEmpty then 0 else 1) < 30))=true:=by rfl)
  (hline:(apos.endLine == cpos.line)=true:=by rfl) (hs:starEach (e::es) X.env=(false,eval e X.env)::starEach es X.env:=by rfl) (hplain:(backTo cpos (starEach es X.env)).any (·.1)=false:=by rfl):
  PE X (.Call (.Attribute o name apos) (e::es) [] cpos) (tBM X.K T r to t):=by
 intro pins s σ H Q I h
 refine wpAny_Call_method_late hbase hfew hline rfl (thn (ho pins s σ H _ I h) fun v s1 ⟨x,H1,I1,r1,ty,q1⟩=>?_)
 obtain ⟨h1,h2⟩:=aet I1 r1 ty
 refine ⟨T,id,pa,slot,hty,h1,h2,?_⟩
 have hA:=ha cpos pins s1 σ H1 _ I1 q1
 rw [hs] at hA ⊢
 refine Calls.callWith_builtin (by show (false || (backTo cpos (starEach es X.env)).any (·.1))=false;rw [hplain]<;>rfl) (Calls.evalArgs_plain ?_)
 exact thn hA fun us s2 ⟨vs,H2,I2,r2,q2⟩=>hm pins s2 σ H2 x vs v us Q I2 r1 r2 q2
end
end L2
namespace L2
open PySem PySem.Spec PyProof.Rows
def MtM (X:Cx)(id:String)(r:V->List V->Hp->VK->Prop):Prop:=
 ∀ (pins:List (Addr×Obj)) (s:Shared) (σ:St) (H:Hp) (x:V) (xs:List V) (v:Value) (us:List Value) (Q:VK),Inv X pins σ H s->bA x v->Vals xs us->r x xs H Q->
  wpAny (model X.prog X.w) X.A (call (.builtin id) (v::us)) (EP X pins σ Q) X.xe s
theorem Vals.one:∀ {x:V} {us:List Value},Vals [x] us->∃ u,us=[u]/\bA x u
 | _,_,.cons r .nil=>⟨_,rfl,r⟩
theorem Vals.rep {xs:List V}{us:List Value}(h:Vals xs us):∀ k:Nat,Vals (List.replicate k xs).flatten (List.replicate k us).flatten
 | 0=>.nil
 | k+1=>by
  rw [List.replicate_succ,List.replicate_succ,List.flatten_cons,List.flatten_cons]
  exact Vals.append h (Vals.rep h k)
theorem sm (its:List Value):∀ (k:Nat) (acc:List Value),
  List.foldl (fun x1 x2=>x1++x2) acc.toArray (List.replicate k its.toArray)=(acc++(List.replicate k its).flatten).toArray
 | 0,acc=>by simp
 | k+1,acc=>by
  have e:acc.toArray++its.toArray=(acc++its).toArray:=by simp
  have e2:(acc++its)++(List.replicate k its).flatten=acc++(List.replicate (k+1) its).flatten:=by
   rw [List.replicate_succ,List.flatten_cons,List.append_assoc]
  rw [<-e2,<-sm its k (acc++its),<-e,List.replicate_succ,List.foldl_cons]
section
variable {X:Cx}{pins:List (Addr×Obj)}{σ:St}{H:Hp}{s:Shared}{l b:Addr}{xs ys zs:List V}
theorem Inv.lset {its its':List Value}{n:Nat}{f:Array Value->Array Value}{t':Nat}(I:Inv X pins σ H s)(hH:H l=some (.lst xs))
  (e:s.heap.get? l=some {cls:=.type "list",data:=.seq its.toArray n})(hf:f its.toArray=its'.toArray)(hv:Vals ys its')(hz:ys.length<=sizeLine):
  Inv X pins σ (upd H l (.lst ys)) {s with heap:=s.heap.update l (Obj.mapSeq f),toks:=t'}:=by
 have q:=PySem.IsL.update e f
 rw [hf] at q
 refine I.write (x:=l) (e:=l) (by rw [hH];exact trivial) (.inl rfl) (fun b' u hb hu=>(Heap.get?_update_other s.heap (Obj.mapSeq f) (Ne.symm hb)).trans hu) ⟨_,q⟩ ?_
 exact ⟨hz,its',_,hv,q⟩
theorem Inv.lnew {its:List Value}{t':Nat}(I:Inv X pins σ H s)(hv:Vals ys its)(hz:ys.length<=sizeLine):
  Inv X pins σ (upd H s.heap.objs.size (.lst ys)) {s with heap:=s.heap.push {cls:=.type "list",data:=.seq its.toArray},toks:=t'}:=
 I.laid (fun _ _ q=>Heap.get?_push_of_some _ q) (Nat.le_refl _) ⟨hz,its,0,hv,Heap.get?_push_size _ rfl⟩
theorem Inv.fresh (I:Inv X pins σ H s):H s.heap.objs.size=none:=I.hok.fresh (Nat.le_refl _)
theorem Inv.lstM (I:Inv X pins σ H s)(hH:H l=some (.lst xs)):xs.length<=sizeLine/\∃ (its:List Value) (n:Nat),Vals xs its/\xs.length=its.length/\s.heap.get? l=some {cls:=.type "list",data:=.seq its.toArray n}:=by
 obtain ⟨z,its,n,r,e⟩:=I.hok l _ hH
 exact ⟨z,its,n,r,r.length,e⟩
theorem wC {n:Nat}(h:n<=sizeLine):Builtin.List.listTooLong n=false:=by
 unfold Builtin.List.listTooLong
 exact decide_eq_false (by omega)
end
section
variable {X:Cx}
def aci:V->List V->Hp->VK->Prop:=fun x vs H Q=>∃ l xs y,x=.ref l/\vs=[y]/\H l=some (.lst xs)/\xs.length < sizeLine/\Q .non (upd H l (.lst (xs++[y])))
theorem z5:MtM X "list.append" aci:=by
 intro pins s σ H x vs v us Q I rx rv h
 obtain ⟨l,xs,y,rfl,rfl,hH,hz,q⟩:=h
 cases rx
 obtain ⟨u,rfl,ru⟩:=rv.one
 obtain ⟨z,its,n,r,hl,e⟩:=I.lstM hH
 refine call_meets F.slot_list_append ⟨_,e,rfl⟩ F.entry_list_append (F.args_list_append_2 _ _) (PySem.list_append l its.toArray n u (by rw [List.size_toArray];omega)) ⟨e,?_⟩
 refine ⟨.non,_,I.lset (its':=its++[u]) hH e (by simp) (r.append (.cons ru .nil)) ?_,rfl,q⟩
 rw [List.length_append,List.length_singleton]
 omega
def acO:V->List V->Hp->VK->Prop:=fun x vs H Q=>∃ l b xs zs,x=.ref l/\vs=[.ref b]/\H l=some (.lst xs)/\H b=some (.lst zs)/\xs.length+zs.length<=sizeLine/\Q .non (upd H l (.lst (xs++zs)))
theorem yT:MtM X "list.extend" acO:=by
 intro pins s σ H x vs v us Q I rx rv h
 obtain ⟨l,b,xs,zs,rfl,rfl,hH,hB,hz,q⟩:=h
 cases rx
 obtain ⟨u,rfl,ru⟩:=rv.one
 cases ru
 obtain ⟨z,its,n,r,hl,e⟩:=I.lstM hH
 obtain ⟨z2,its2,n2,r2,hl2,e2⟩:=I.lstM hB
 have hsz:its.toArray.size+its2.toArray.size<=sizeLine:=by rw [List.size_toArray,List.size_toArray];omega
 have hlong:¬ (!its.toArray.isEmpty&&Builtin.List.listTooLong (its.toArray.size+its2.toArray.size))=true:=by
  rw [wC hsz,Bool.and_false]
  exact Bool.false_ne_true
 refine call_meets F.slot_list_extend ⟨_,e,rfl⟩ F.entry_list_extend (F.args_list_extend_2 _ _)
  (AutoSeq1.list_extend_list_list_0 l its.toArray n b its2.toArray n2 hlong (by rw [List.size_toArray];omega) (by omega)) ⟨e,e2,?_⟩
 refine ⟨.non,_,I.lset (its':=its++its2) hH e (by simp) (r.append r2) ?_,rfl,q⟩
 rw [List.length_append]
 omega
def afT:R2:=fun x y H Q=>∃ l b xs zs,x=.ref l/\y=.ref b/\H l=some (.lst xs)/\H b=some (.lst zs)/\xs.length+zs.length<=sizeLine/\∀ p,H p=none->Q (.ref p) (upd H p (.lst (xs++zs)))
theorem abu:OpR X (binaryOp .Add) afT:=by
 intro pins s σ H x y v u Q I rx ry h
 obtain ⟨l,b,xs,zs,rfl,rfl,hH,hB,hz,q⟩:=h
 cases rx
 cases ry
 obtain ⟨z,its,n,r,hl,e⟩:=I.lstM hH
 obtain ⟨z2,its2,n2,r2,hl2,e2⟩:=I.lstM hB
 refine PySem.P.add_list e e2 ?_ (by rw [List.size_toArray,List.size_toArray];omega)
 have ea:its.toArray++its2.toArray=(its++its2).toArray:=by simp
 rw [ea]
 exact ⟨.ref _,_,I.lnew (t':=s.toks) (r.append r2) (by rw [List.length_append];omega),rfl,q _ I.fresh⟩
def afH:R2:=fun x y H Q=>∃ l k xs,x=.ref l/\y=.int k/\H l=some (.lst xs)/\-(2 ^ 63)<=k/\k < 2 ^ 63/\xs.length * k.toNat<=sizeLine/\
 ∀ p,H p=none->Q (.ref p) (upd H p (.lst (List.replicate k.toNat xs).flatten))
theorem acG {α:Type}(xs:List α)(k:Nat):(List.replicate k xs).flatten.length=k * xs.length:=by
 induction k with
 | zero=>simp
 | succ k ih=>rw [List.replicate_succ,List.flatten_cons,List.length_append,ih,Nat.succ_mul,Nat.add_comm]
theorem aeD:OpR X (binaryOp .Mult) afH:=by
 intro pins s σ H x y v u Q I rx ry h
 obtain ⟨l,k,xs,rfl,rfl,hH,h1,h2,hz,q⟩:=h
 cases rx
 obtain ⟨t,rfl⟩:=ry
 obtain ⟨z,its,n,r,hl,e⟩:=I.lstM hH
 have hlen:its.toArray.size * k.toNat<=sizeLine:=by rw [List.size_toArray,<-hl];exact hz
 have hcap:¬ its.toArray.size * k.toNat > (2 ^ 63 - 1) / 8:=by
  have:(sizeLine:Nat)<=(2 ^ 63 - 1) / 8:=by decide
  omega
 have hfit:¬ (!Builtin.List.listFitsIndex k)=true:=by
  rw [fitsIndex_both h1 h2]
  exact Bool.false_ne_true
 have hlong:¬ Builtin.List.listTooLong (its.toArray.size * k.toNat)=true:=by
  rw [wC hlen]
  exact Bool.false_ne_true
 have hnew:List.foldl (fun x1 x2=>x1++x2) #[] (List.replicate (if its.toArray.isEmpty=true then 0 else k.toNat) its.toArray)=(List.replicate k.toNat its).flatten.toArray:=by
  have f0:∀ m:Nat,List.foldl (fun x1 x2=>x1++x2) #[] (List.replicate m its.toArray)=(List.replicate m its).flatten.toArray:=fun m=>by
   have:=sm its m []
   rw [List.nil_append] at this
   exact this
  rw [f0]
  cases its with
  | nil=>simp
  | cons a r'=>rw [if_neg (by simp)]
 refine wpAny_binaryOp_repeat_ref (T:="list") (U:="int") (by decide) ⟨_,e,rfl⟩ (fun s'=>typeIs_int s' k t) noFill_list_mul F.fills_int_mul F.slot_int_rmul repeat_list F.slot_int_index.lookup
  (call_meets F.slot_int_rmul (typeIs_int s k t) F.entry_int_rmul (F.args_int_rmul_2 _ _) (int___rmul___int_list k t l its.toArray n)
   ⟨e,rfl,⟨_,e,rfl⟩,call_meets F.slot_list_mul ⟨_,e,rfl⟩ F.entry_list_mul (F.args_list_mul_2 _ _) (AutoListH.list___mul___list_int_3 l its.toArray n k t hfit hcap hlong) ⟨e,?_⟩⟩)
 rw [hnew]
 exact ⟨.ref _,_,I.lnew (t':=s.toks) (r.rep k.toNat) (by rw [acG,Nat.mul_comm];exact hz),rfl,q _ I.fresh⟩
end
section
variable {prog:Program}{w:World}{A:Around}{E:Value->Shared->Prop}{s:Shared}
set_option maxRecDepth 100000 in
end
section
variable {X:Cx}
end
end L2
namespace L2
open PySem PySem.Spec PyProof.Rows
theorem Vals.ints:∀ {ns:List Int} {us:List Value},Vals (ns.map V.int) us->IntsAre us ns
 | [],us,h=>by
  rw [List.map_nil] at h
  cases h
  exact IntsAre.nil
 | n::ns,us,h=>by
  rw [List.map_cons] at h
  cases h with
  | cons r t=>
   obtain ⟨k,rfl⟩:=r
   exact IntsAre.cons n k (Vals.ints t)
theorem Vals.bls:∀ {bs:List Bool} {us:List Value},Vals (bs.map V.bl) us->us=bs.map Value.bool
 | [],us,h=>by
  rw [List.map_nil] at h
  cases h
  rfl
 | b::bs,us,h=>by
  rw [List.map_cons] at h
  cases h with
  | cons r t=>
   cases r
   rw [Vals.bls t,List.map_cons]
theorem Vals.ref1 {a:Addr}{us:List Value}(r:Vals [V.ref a] us):us=[Value.ref a]:=by
 cases r with
 | cons r t=>
  cases t
  cases r
  rfl
section
variable {prog:Program}{w:World}{A:Around}{E:Value->Shared->Prop}{s:Shared}{l:Addr}{its:List Value}{ns:List Int}{Q:Value->Shared->Prop}
theorem acn (hh:A.handled=none)(hl:s.heap.IsList l its.toArray)(hi:IntsAre its ns)
  (h:∀ h' tk t',(∀ b o,s.heap.get? b=some o->h'.get? b=some o)->Q (.int ns.sum t') {s with heap:=h',toks:=tk}):wpAny (model prog w) A (call (.builtin "sum") [.ref l]) Q E s:=by
 obtain ⟨xs,e⟩:=hi.allInts.items
 have hn:numsOf (intItems xs).toList=ns:=by rw [<-e];exact hi.numsOf
 rw [nums_intItems] at hn
 rw [e] at hl
 refine PySem.sum_intListG hh hl fun h' tk t' hk=>?_
 have:=h h' tk t' hk
 rw [preSum_eq,List.take_of_length_le (by simp),hn];exact this
theorem ac8 (hh:A.handled=none)(hl:s.heap.IsList l its.toArray)(hi:IntsAre its ns)(hne:0 < ns.length)
  (h:∀ h' tk M t',(∀ b o,s.heap.get? b=some o->h'.get? b=some o)->M∈ns->(∀ a,a∈ns->a<=M)->Q (.int M t') {s with heap:=h',toks:=tk}):wpAny (model prog w) A (call (.builtin "max") [.ref l]) Q E s:=by
 obtain ⟨xs,e⟩:=hi.allInts.items
 have hn:numsOf (intItems xs).toList=ns:=by rw [<-e];exact hi.numsOf
 rw [nums_intItems] at hn
 subst hn
 rw [e] at hl
 have hsz:0 < xs.size:=by simpa using hne
 refine PySem.max_intList hh hl hsz fun v h' tk hv hk=>?_
 obtain ⟨t,rfl⟩:=intItems_at hv
 obtain ⟨h1,h2⟩:=argBest_gt (numAt xs) (xs.size - 1)
 refine h h' tk _ t hk ?_ fun a ha=>?_
 ·rw [numAt_eq];exact PySem.getD_mem (by rw [List.length_map,Array.length_toList];omega)
 ·obtain ⟨j,hj,rfl⟩:=mem_getD ha
  rw [List.length_map,Array.length_toList] at hj
  rw [<-numAt_eq];exact h2 j (by omega)
end
section
variable {X:Cx}
def afL (K:PySem.W.Frag):List V->Hp->VK->Prop:=fun vs H Q=>∃ (a:Addr) (ns:List Int),vs=[V.ref a]/\SqL K H a (ns.map V.int)/\Q (.int ns.sum) H
def afX (K:PySem.W.Frag):List V->Hp->VK->Prop:=fun vs H Q=>∃ (a:Addr) (ns:List Int),vs=[V.ref a]/\SqL K H a (ns.map V.int)/\0 < ns.length/\∀ m,m∈ns->(∀ y,y∈ns->y<=m)->Q (.int m) H
theorem aeh (hc:X.calm=true):j3 X (.builtin "sum") (afL X.K):=by
 intro pins s σ H vs us Q I r h
 obtain ⟨a,ns,rfl,hs,q⟩:=h
 obtain ⟨its,rv,hl,_⟩:=I.list hs
 rw [Vals.ref1 r]
 exact acn (I.ok.hd hc) hl.isList rv.ints fun h' tk t' hk=>⟨.int _,H,I.kept hk,⟨_,rfl⟩,q⟩
theorem adQ (hc:X.calm=true):j3 X (.builtin "max") (afX X.K):=by
 intro pins s σ H vs us Q I r h
 obtain ⟨a,ns,rfl,hs,hne,q⟩:=h
 obtain ⟨its,rv,hl,_⟩:=I.list hs
 rw [Vals.ref1 r]
 exact ac8 (I.ok.hd hc) hl.isList rv.ints hne fun h' tk m t' hk h1 h2=>⟨.int _,H,I.kept hk,⟨_,rfl⟩,q m h1 h2⟩
end
section
variable {X:Cx}
end
section
variable {X:Cx}
end
theorem abh {prog:Program}{w:World}{A:Around}{E:Value->Shared->Prop}{s:Shared}{l:Addr}{items:Array Value}{Q:Value->Shared->Prop}(hl:s.heap.IsList l items)
  (h:∀ s₂:Shared,s₂={s with heap:=s.heap.push {cls:=.type "list_iterator",data:=.fields #[.ref l,.int 0 0]}}->
   (s₂.heap.IsListIter s.heap.objs.size l 0/\s₂.heap.IsList l items)->l≠s.heap.objs.size->Q (.ref s.heap.objs.size) s₂):wpAny (model prog w) A (pyIter (.ref l)) Q E s:=by
 have hlt:l < s.heap.objs.size:=by obtain ⟨_,e,_⟩:=hl;exact Heap.lt_size e
 exact wpAny_pyIter_list hl (h _ rfl ⟨⟨_,Heap.get?_push_size _ rfl,rfl,rfl⟩,hl.push _⟩ (Nat.ne_of_lt hlt))
theorem vo {prog:Program}{w:World}{A:Around}{bs:List Bool}{its:List Value}(e:its=bs.map Value.bool):
  TruthOf prog w A (fun i v=>its.toArray[i]?=some v) (fun i=>bs.getD i false):=fun i v s Q E hv hq=>by
 have hv':its[i]?=some v:=by simpa using hv
 rw [e,List.getElem?_map] at hv'
 obtain ⟨b,hb,rfl⟩:=Option.map_eq_some_iff.mp hv'
 have hg:bs.getD i false=b:=by rw [List.getD_eq_getElem?_getD,hb]<;>rfl
 have hq':Q (bs.getD i false) s:=hq
 rw [hg] at hq'
 exact wpAny_truthy_bool hq'
theorem sM:∀ bs:List Bool,(List.range bs.length).all (fun i=>bs.getD i false)=bs.all id
 | []=>rfl
 | b::bs=>by
  rw [List.length_cons,List.range_succ_eq_map,List.all_cons,List.all_map,List.all_cons,<-sM bs]
  all_goals rfl
section
variable {X:Cx}
def af4 (K:PySem.W.Frag):List V->Hp->VK->Prop:=fun vs H Q=>∃ (a:Addr) (bs:List Bool),vs=[V.ref a]/\SqL K H a (bs.map V.bl)/\Q (.bl (bs.all id)) H
theorem aef (hc:X.calm=true):j3 X (.builtin "all") (af4 X.K):=by
 intro pins s σ H vs us Q I r h
 obtain ⟨a,bs,rfl,hs,q⟩:=h
 obtain ⟨its,rv,hl,_⟩:=I.list hs
 rw [Vals.ref1 r]
 have hb:=rv.bls
 refine call_all_walk (abh hl.isList fun s₂ e2 st hne=>?_)
 subst e2
 refine ⟨_,_,_,_,_,_,_,rfl,Walks.list (A:=X.A.in1) (I.ok.hd hc) _ a hne its.toArray,st,vo hb,fun h' tk hk=>?_⟩
 refine ⟨.bl _,H,I.kept fun b o eo=>hk b o (fun hmem=>?_) (Heap.get?_push_of_some _ eo),?_,q⟩
 ·rcases List.mem_cons.mp hmem with e1 | hmem
  ·exact absurd (e1 ▸ Heap.lt_size eo) (Nat.lt_irrefl _)
  ·cases hmem
 ·show Value.bool _=Value.bool _
  rw [<-sM,hb,List.size_toArray,List.length_map]
end
section
variable {X:Cx}{pins:List (Addr×Obj)}{σ:St}{H:Hp}{s:Shared}
end
section
variable {X:Cx}
end
end L2
namespace L2
open PySem PySem.Spec PyProof.Rows
abbrev aaM (h:Heap)(c:Addr)(v:Option Value):Prop:=h.IsCell c v
def af8 (scope sc:Scope):Scope:=
 {scope with names:=scope.names.map fun (n,k)=>if (k == .free&&sc.kind == .function&&sc.names.lookup n == some .cell) then (n,.cell) else (n,k)}
def bB (cells:List (Str×Addr)):List (Str×NameKind)->List (Str×Addr)->List (Str×Addr)
 | [],acc=>acc
 | (n,k)::r,acc=>if k == .free then bB cells r ((n,(cells.lookup n).getD 0)::acc) else bB cells r acc
theorem lx (env:Env)(f:Str×NameKind->List (Str×Addr)->Sem (ForInStep (List (Str×Addr))))
  (hf:∀ n k c,f (n,k) c=if k == .free then (do let a <-cellOf env n;pure (.yield ((n,a)::c))) else pure (.yield c)):
  ∀ (names:List (Str×NameKind)) (acc:List (Str×Addr)),(∀ y∈names,y.2=.free->∃ c,env.cells.lookup y.1=some c)->forIn names acc f=pure (bB env.cells names acc)
 | [],acc,_=>by rw [List.forIn_nil];rfl
 | (n,k)::r,acc,h=>by
  rw [List.forIn_cons,hf]
  have ih:=fun acc=>lx env f hf r acc fun y hy=>h y (List.mem_cons_of_mem _ hy)
  unfold bB
  by_cases hk:(k == NameKind.free)=true
  ·rw [if_pos hk,if_pos hk]
   obtain ⟨c,hc⟩:=h (n,k) List.mem_cons_self (by simpa using hk)
   have e:cellOf env n=pure c:=by unfold cellOf;rw [hc]
   rw [e]
   have e2:(env.cells.lookup n).getD 0=c:=by rw [hc];rfl
   rw [e2]
   exact ih _
  ·rw [if_neg hk,if_neg hk]
   exact ih _
theorem xh {scope:Scope}{env:Env}(h:∀ y∈scope.names,y.2=.free->∃ c,env.cells.lookup y.1=some c):closureFor scope env=pure (bB env.cells scope.names []):=by
 simp only [closureFor]
 rw [lx env _ (fun n k c=>rfl) scope.names [] h]
 rfl
theorem km {α:Type}:∀ {l:List (Str×α)} {n:Str} {c:α},(n,c)∈l->∃ c',l.lookup n=some c'
 | (k,v)::r,n,c,h=>by
  rw [List.lookup_cons]
  cases hb:n == k with
  | true=>exact ⟨_,rfl⟩
  | false=>
   rcases List.mem_cons.mp h with e | h
   ·cases e;simp at hb
   ·exact km h
theorem gQ {cells:List (Str×Addr)}:∀ {names:List (Str×NameKind)} {acc:List (Str×Addr)} {n:Str} {c:Addr},(n,c)∈bB cells names acc->(n,c)∈acc\/((n,.free)∈names/\c=(cells.lookup n).getD 0)
 | [],_,_,_,h=>.inl h
 | (m,k)::r,acc,n,c,h=>by
  unfold bB at h
  split at h
  ·rename_i hk
   have hk:k=.free:=by simpa using hk
   rcases gQ h with h | ⟨h1,h2⟩
   ·rcases List.mem_cons.mp h with e | h
    ·cases e;exact .inr ⟨hk ▸ List.mem_cons_self,rfl⟩
    ·exact .inl h
   ·exact .inr ⟨List.mem_cons_of_mem _ h1,h2⟩
  ·rcases gQ h with h | ⟨h1,h2⟩
   ·exact .inl h
   ·exact .inr ⟨List.mem_cons_of_mem _ h1,h2⟩
theorem i3 {cells:List (Str×Addr)}:∀ {names:List (Str×NameKind)} {acc:List (Str×Addr)} {p:Str×Addr},p∈acc->p∈bB cells names acc
 | [],_,_,h=>h
 | (m,k)::r,acc,p,h=>by
  unfold bB
  split
  ·exact i3 (List.mem_cons_of_mem _ h)
  ·exact i3 h
theorem jw {cells:List (Str×Addr)}:∀ {names:List (Str×NameKind)} {acc:List (Str×Addr)} {n:Str},(n,.free)∈names->(n,(cells.lookup n).getD 0)∈bB cells names acc
 | (m,k)::r,acc,n,h=>by
  unfold bB
  rcases List.mem_cons.mp h with e | h
  ·cases e
   exact i3 List.mem_cons_self
  ·split
   ·exact jw h
   ·exact jw h
theorem im:∀ {names:List (Str×NameKind)} {h:Heap} {acc:List (Str×Addr)} {x:Str} {c:Addr},(x,c)∈cellsFrom h.objs.size names acc->
  (x,c)∈acc\/((x,.cell)∈names/\h.objs.size<=c/\aaM (pushCells h names) c none)
 | [],_,_,_,_,h=>.inl h
 | (n,k)::r,h,acc,x,c,hm=>by
  unfold cellsFrom at hm
  unfold pushCells
  split at hm
  ·rename_i hk
   rw [if_pos hk]
   have hk:k=.cell:=by simpa using hk
   rw [<-Heap.size_push h {cls:=.type "cell",data:=.cell none}] at hm
   rcases im hm with hm | ⟨h1,h2,h3⟩
   ·rcases List.mem_cons.mp hm with e | hm
    ·cases e
     exact .inr ⟨hk ▸ List.mem_cons_self,Nat.le_refl _,_,pushCells_keeps r _ _ _ (Heap.get?_push_size _ rfl),rfl⟩
    ·exact .inl hm
   ·rw [Heap.size_push] at h2
    exact .inr ⟨List.mem_cons_of_mem _ h1,Nat.le_of_succ_le h2,h3⟩
  ·rename_i hk
   rw [if_neg hk]
   rcases im hm with hm | ⟨h1,h2,h3⟩
   ·exact .inl hm
   ·exact .inr ⟨List.mem_cons_of_mem _ h1,h2,h3⟩
theorem jE:∀ {names:List (Str×NameKind)} {n:Nat} {acc:List (Str×Addr)} {p:Str×Addr},p∈acc->p∈cellsFrom n names acc
 | [],_,_,_,h=>h
 | (m,k)::r,n,acc,p,h=>by
  unfold cellsFrom
  split
  ·exact jE (List.mem_cons_of_mem _ h)
  ·exact jE h
theorem mE:∀ {names:List (Str×NameKind)} {n:Nat} {acc:List (Str×Addr)} {x:Str},(x,.cell)∈names->∃ c,(x,c)∈cellsFrom n names acc
 | (m,k)::r,n,acc,x,h=>by
  unfold cellsFrom
  rcases List.mem_cons.mp h with e | h
  ·cases e
   exact ⟨n,jE List.mem_cons_self⟩
  ·split
   ·exact mE h
   ·exact mE h
theorem mj:∀ {names:List (Str×NameKind)} {h:Heap} {acc:List (Str×Addr)} {x y:Str} {c:Addr},(∀ p∈acc,p.2 < h.objs.size)->(∀ x y c,(x,c)∈acc->(y,c)∈acc->x=y)->
  (x,c)∈cellsFrom h.objs.size names acc->(y,c)∈cellsFrom h.objs.size names acc->x=y
 | [],_,_,_,_,_,_,hi,h1,h2=>hi _ _ _ h1 h2
 | (n,k)::r,h,acc,x,y,c,hl,hi,h1,h2=>by
  unfold cellsFrom at h1 h2
  split at h1
  ·rename_i hk
   rw [if_pos hk] at h2
   rw [<-Heap.size_push h {cls:=.type "cell",data:=.cell none}] at h1 h2
   refine mj (h:=h.push _) (fun p hp=>?_) (fun x y c a b=>?_) h1 h2
   ·rw [Heap.size_push]
    rcases List.mem_cons.mp hp with rfl | hp
    ·exact Nat.lt_succ_self _
    ·exact Nat.lt_succ_of_lt (hl p hp)
   ·rcases List.mem_cons.mp a with e | a<;>rcases List.mem_cons.mp b with e' | b
    ·cases e;cases e';rfl
    ·cases e;exact absurd (hl _ b) (Nat.lt_irrefl _)
    ·cases e';exact absurd (hl _ a) (Nat.lt_irrefl _)
    ·exact hi _ _ _ a b
  ·rename_i hk
   rw [if_neg hk] at h2
   exact mj hl hi h1 h2
theorem wy {M:Model}{A:Around}{E:Value->Shared->Prop}{s:Shared}{scope:Scope}{globals:Addr}{closure:List (Str×Addr)}{qual:Str}{func:Option Addr}{code:Value}{around:Env}{builtins:Addr}{Q:Env->Shared->Prop}
  (h:Q (newEnv scope s.heap.objs.size globals (cellsFrom (s.heap.objs.size+1) scope.names closure) qual func code (some around) builtins)
   {s with heap:=pushCells (s.heap.push {cls:=.type "dict",data:=.dict #[]}) scope.names}):
  wpAny M A (newFunctionEnv scope globals closure [] qual func code (some around) builtins) Q E s:=by
 simp only [newFunctionEnv,Option.isSome_some,if_true]
 refine wpAny_bind (wpAny_alloc ?_)
 refine wpAny_bind (wpAny_layCells _ (fun n k c=>rfl) scope.names closure _ _ ?_)
 rw [show ({s with heap:=s.heap.push {cls:=.type "dict",data:=.dict #[]}}:Shared).heap.objs.size=s.heap.objs.size+1 from Heap.size_push ..]
 rw [List.forIn_nil]
 exact wpAny_bind (wpAny_pure (wpAny_pure h))
theorem jv {sc:Scope}:∀ {names:List (Str×NameKind)} {x:Str} {k:NameKind},
  (names.map fun (n,k)=>if (k == NameKind.free&&sc.kind == .function&&sc.names.lookup n == some .cell) then (n,NameKind.cell) else (n,k)).lookup x=some k->
  ∃ k',names.lookup x=some k'/\(k=k'\/(k'=.free/\k=.cell))
 | [],_,_,h=>by simp at h
 | (n,k₀)::r,x,k,h=>by
  have ih:=@jv sc r x k
  have h':List.lookup x ((if (k₀ == NameKind.free&&sc.kind == .function&&sc.names.lookup n == some .cell)=true then (n,NameKind.cell) else (n,k₀))::(r.map _))=some k:=h
  cases hx:x == n with
  | true=>
   simp only [List.lookup_cons,hx]
   by_cases hc:(k₀ == NameKind.free&&sc.kind == .function&&sc.names.lookup n == some .cell)=true
   ·rw [if_pos hc] at h'
    simp only [List.lookup_cons,hx] at h'
    cases h'
    simp only [Bool.and_eq_true,beq_iff_eq] at hc
    exact ⟨k₀,rfl,.inr ⟨hc.1.1,rfl⟩⟩
   ·rw [if_neg hc] at h'
    simp only [List.lookup_cons,hx] at h'
    cases h'
    exact ⟨_,rfl,.inl rfl⟩
  | false=>
   simp only [List.lookup_cons,hx]
   by_cases hc:(k₀ == NameKind.free&&sc.kind == .function&&sc.names.lookup n == some .cell)=true
   ·rw [if_pos hc] at h'
    simp only [List.lookup_cons,hx] at h'
    exact ih h'
   ·rw [if_neg hc] at h'
    simp only [List.lookup_cons,hx] at h'
    exact ih h'
structure m4 (N:List Str)(sc scope:Scope)(own:List (Str×Nat)):Prop where
 kind:scope.kind=.function
 uniq:∀ y∈scope.names,scope.names.lookup y.1=some y.2
 ix:∀ p∈own,N[p.2]?=some p.1
 free:∀ y∈scope.names,y.2=.free->sc.names.lookup y.1=some .cell\/sc.names.lookup y.1=some .free
 own:∀ y∈scope.names,y.2=.local\/y.2=.cell->y.1∈own.map (·.1)\/y.1 ∉ N
def wipe (σ:St):List Nat->St
 | []=>σ
 | v::vs=>(wipe σ vs).set v none
theorem jq (σ:St):∀ vs:List Nat,(wipe σ vs).length=σ.length
 | []=>rfl
 | v::vs=>by unfold wipe;rw [List.length_set,jq σ vs]
theorem mL {σ:St}{i:Nat}{x:V}:∀ {vs:List Nat},(wipe σ vs)[i]?=some (some x)->σ[i]?=some (some x)/\i ∉ vs
 | [],h=>⟨h,by simp⟩
 | v::vs,h=>by
  unfold wipe at h
  by_cases hi:v=i
  ·subst hi
   by_cases hv:v < (wipe σ vs).length
   ·rw [List.getElem?_set_self hv] at h;cases h
   ·rw [List.getElem?_eq_none (by simpa using hv)] at h;cases h
  ·rw [List.getElem?_set_ne hi] at h
   obtain ⟨h1,h2⟩:=mL h
   exact ⟨h1,by simp only [List.mem_cons,not_or];exact ⟨fun e=>hi e.symm,h2⟩⟩
abbrev Cx.blk (X:Cx)(s:Shared)(H:Hp)(scope:Scope)(cenv:Env)(fp:List Addr):Cx:={X with s_0:=s,H_0:=H,env:=cenv,outer:=X.stack,ex:=fp,fn:=fun x=>scope.names.lookup x == some .cell,pn:=[],xe:=fun _ _=>False}
section
variable {X:Cx}{pins:List (Addr×Obj)}{σ:St}{H:Hp}{s:Shared}
theorem vL {scope:Scope}{own:List (Str×Nat)}{fp:List Addr}(I:Inv X pins σ H s)(ok:m4 X.N X.env.scope scope own)(hN:X.N.Nodup)(hfp:∀ b∈fp,nw X pins H b/\b < s.heap.objs.size):
  Inv (X.blk s H scope (compEnvC scope (cellsFrom (s.heap.objs.size+1) scope.names (bB X.env.cells scope.names [])) s.heap.objs.size X.env) fp) [] (wipe σ (own.map (·.2))) H {s with heap:=pushCells (s.heap.push {cls:=.type "dict",data:=.dict #[]}) scope.names}:=by
 have hfree:∀ y∈scope.names,y.2=.free->∃ c,X.env.cells.lookup y.1=some c:=fun y hy e=>by
  rcases ok.free y hy e with k | k
  ·exact I.ok.has _ (.inl k)
  ·exact I.ok.has _ (.inr k)
 generalize hcenv:compEnvC scope (cellsFrom (s.heap.objs.size+1) scope.names (bB X.env.cells scope.names [])) s.heap.objs.size X.env=cenv
 have kp:∀ b o,s.heap.get? b=some o->(pushCells (s.heap.push {cls:=.type "dict",data:=.dict #[]}) scope.names).get? b=some o:=fun b o e=>pushCells_keeps _ _ _ _ (Heap.get?_push_of_some _ e)
 have hL:cenv.locals=s.heap.objs.size:=by rw [<-hcenv];rfl
 have hcl:cenv.cells=cellsFrom (s.heap.objs.size+1) scope.names (bB X.env.cells scope.names []):=by rw [<-hcenv];rfl
 have hsc:cenv.scope=af8 scope X.env.scope:=by rw [<-hcenv];rfl
 rw [<-Heap.size_push s.heap {cls:=.type "dict",data:=.dict #[]}] at hcl
 have cm:∀ {y c},(y,c)∈bB X.env.cells scope.names []->X.env.cells.lookup y=some c/\c < s.heap.objs.size:=fun {y c} hm=>by
  rcases gQ hm with hm | ⟨h1,rfl⟩
  ·cases hm
  ·obtain ⟨c,hc⟩:=hfree _ h1 rfl
   rw [hc]
   obtain ⟨w,z⟩:=I.cell _ _ hc
   exact ⟨rfl,z.lt⟩
 have mem:∀ {y c},cenv.cells.lookup y=some c->(X.env.cells.lookup y=some c/\c < s.heap.objs.size)\/(s.heap.objs.size+1<=c/\aaM (pushCells (s.heap.push {cls:=.type "dict",data:=.dict #[]}) scope.names) c none):=fun {y c} e=>by
  rw [hcl] at e
  rcases im (PySem.mem_of_lookup e) with hm | ⟨_,h2,h3⟩
  ·exact .inl (cm hm)
  ·rw [Heap.size_push] at h2;exact .inr ⟨h2,h3⟩
 have look:∀ {y},scope.names.lookup y=some .free->∃ c,cenv.cells.lookup y=some c/\X.env.cells.lookup y=some c:=fun {y} hl=>by
  have hy:(y,NameKind.free)∈scope.names:=PySem.mem_of_lookup hl
  obtain ⟨c',e'⟩:=km (jE (names:=scope.names) (n:=(s.heap.push {cls:=.type "dict",data:=.dict #[]}).objs.size) (jw (cells:=X.env.cells) (acc:=[]) hy))
  rw [<-hcl] at e'
  refine ⟨c',e',?_⟩
  rw [hcl] at e'
  rcases im (PySem.mem_of_lookup e') with hm | ⟨h1,_,_⟩
  ·exact (cm hm).1
  ·have:=ok.uniq _ h1
   rw [hl] at this;cases this
 have okB:(X.blk s H scope cenv fp).Ok:=by
  refine ⟨I.ok.mod,by show cenv.scope.kind=_;rw [hsc];exact ok.kind,by show cenv.globals=_;rw [<-hcenv];exact I.ok.glob,by show cenv.builtins=_;rw [<-hcenv];exact I.ok.blt,by show s.heap.objs.size<=cenv.locals;rw [hL];exact Nat.le_refl _,
   fun y z c e1 e2=>?_,fun y hy=>?_,fun y c z e=>?_,I.ok.hd,I.ok.frames,.inl rfl,fun b hb=>⟨?_,fun y c e z=>?_⟩,I.bs,Nat.le_trans I.ok.bsz I.sz,fun b o e hb=>?_,fun b hb z=>?_,I.stack,I.stkFree⟩
  ·have e1:cenv.cells.lookup y=some c:=e1
   have e2:cenv.cells.lookup z=some c:=e2
   rw [hcl] at e1 e2
   refine mj (fun p hp=>?_) (fun y z c a b=>I.ok.inj y z c (cm a).1 (cm b).1) (PySem.mem_of_lookup e1) (PySem.mem_of_lookup e2)
   rw [Heap.size_push]
   exact Nat.lt_succ_of_lt (cm (y:=p.1) (c:=p.2) hp).2
  ·show ∃ c,cenv.cells.lookup y=some c
   have key:∀ k,cenv.kindOf y=some k->(k=.cell\/k=.free)->∃ c,cenv.cells.lookup y=some c:=fun k hk hk'=>by
    unfold Env.kindOf at hk
    rw [hsc] at hk
    obtain ⟨k',e,r⟩:=jv hk
    have:k'=.cell\/k'=.free:=by
     rcases r with rfl | ⟨rfl,_⟩
     ·exact hk'
     ·exact .inr rfl
    rcases this with rfl | rfl
    ·obtain ⟨c,hm⟩:=mE (n:=(s.heap.push {cls:=.type "dict",data:=.dict #[]}).objs.size) (acc:=bB X.env.cells scope.names []) (PySem.mem_of_lookup e)
     obtain ⟨c',e'⟩:=km hm
     exact ⟨c',by rw [hcl];exact e'⟩
    ·obtain ⟨c,h1,_⟩:=look e
     exact ⟨c,h1⟩
   rcases hy with hy | hy
   ·exact key _ hy (.inl rfl)
   ·exact key _ hy (.inr rfl)
  ·have z:(scope.names.lookup y == some NameKind.cell)=true:=z
   have z:scope.names.lookup y=some .cell:=by simpa using z
   have e:cenv.cells.lookup y=some c:=e
   rw [hcl] at e
   rcases im (PySem.mem_of_lookup e) with hm | ⟨_,h2,_⟩
   ·rcases gQ hm with hm | ⟨h1,_⟩
    ·cases hm
    ·have q:=ok.uniq _ h1
     rw [z] at q;cases q
   ·rw [Heap.size_push] at h2
    exact Nat.le_of_succ_le h2
  ·show b≠cenv.locals
   rw [hL];exact Nat.ne_of_lt (hfp b hb).2
  ·have e:cenv.cells.lookup y=some c:=e
   rcases mem e with ⟨h1,_⟩ | ⟨h1,_⟩
   ·exact (hfp b hb).1.2.2.2.2.1 y c h1 z
   ·have h2:s.heap.objs.size+1<=b:=by rw [<-z];exact h1
    exact absurd (Nat.lt_of_lt_of_le (hfp b hb).2 (Nat.le_of_succ_le h2)) (Nat.lt_irrefl _)
  ·rcases (hfp b hb).1.2.2.2.1 with z | z
   ·exact I.ok.noex b o e z
   ·exact absurd (Nat.lt_of_lt_of_le (Heap.lt_size e) (Nat.le_trans I.ok.bsz z)) (Nat.lt_irrefl _)
  ·rcases List.mem_cons.mp (I.stkSub b z) with z | z
   ·exact (hfp b hb).1.2.1 z
   ·exact (hfp b hb).1.2.2.1 z
 refine ⟨okB,rfl,I.bare,Un.kept kp,⟨fun _=>none,?_,fun i y av e1 e2 e3=>?_⟩,fun y c e=>?_,?_,fun y c e=>?_,fun p hp=>?_,I.hok.kept kp,by rw [jq];exact I.len⟩
 ·show Heap.Ns _ cenv.locals _
  rw [hL]
  exact Heap.Ns.keeps (Heap.Ns.new ..) fun b o e=>pushCells_keeps _ _ _ _ e
 ·obtain ⟨e2,hne⟩:=mL e2
  have hfr:scope.names.lookup y=some .free/\(cenv.kindOf y=some .cell\/cenv.kindOf y=some .free):=by
   have key:∀ k,cenv.scope.names.lookup y=some k->k=.local\/k=.cell\/k=.free->scope.names.lookup y=some .free/\(cenv.kindOf y=some .cell\/cenv.kindOf y=some .free):=fun k hk hk'=>by
    have hk0:=hk
    rw [hsc] at hk
    obtain ⟨k',e,r⟩:=jv hk
    have no:¬ (k'=.local\/k'=.cell):=fun hh=>by
     rcases ok.own _ (PySem.mem_of_lookup e) hh with e' | e'
     ·obtain ⟨p,hp,hpy⟩:=List.mem_map.mp e'
      have e3:=ok.ix p hp
      have:p.1=y:=hpy
      rw [this] at e3
      exact hne (List.mem_map.mpr ⟨p,hp,qC hN e3 e1⟩)
     ·exact e' (List.mem_of_getElem? e1)
    rcases r with rfl | ⟨rfl,rfl⟩
    ·rcases hk' with rfl | rfl | rfl
     ·exact absurd (.inl rfl) no
     ·exact absurd (.inr rfl) no
     ·exact ⟨e,.inr hk0⟩
    ·exact ⟨e,.inl hk0⟩
   have e3:Vis cenv.scope y:=e3
   rcases e3 with e3 | e3 | e3
   ·exact key _ e3 (.inl rfl)
   ·exact key _ e3 (.inr (.inl rfl))
   ·exact key _ e3 (.inr (.inr rfl))
  obtain ⟨m,hn,hl⟩:=I.loc
  have hvis:Vis X.env.scope y:=(ok.free _ (PySem.mem_of_lookup hfr.1) rfl).elim (fun k=>.inr (.inl k)) (fun k=>.inr (.inr k))
  obtain ⟨w,r,q⟩:=hl i y av e1 e2 hvis
  refine ⟨w,r,.inr ⟨hfr.2,?_⟩⟩
  obtain ⟨c,h1,h2⟩:=look hfr.1
  rcases q with ⟨k,_⟩ | ⟨_,c',e',z⟩
  ·have k:X.env.scope.names.lookup y=some .local:=k
   rcases ok.free _ (PySem.mem_of_lookup hfr.1) rfl with k' | k'<;>rw [show X.env.scope.names.lookup y=_ from k'] at k<;>cases k
  ·rw [h2] at e';cases e'
   exact ⟨c,h1,z.keeps kp⟩
 ·have e:cenv.cells.lookup y=some c:=e
  rcases mem e with ⟨h1,_⟩ | ⟨_,z⟩
  ·obtain ⟨w,z⟩:=I.cell y c h1
   exact ⟨w,z.keeps kp⟩
  ·exact ⟨_,z⟩
 ·show H cenv.locals=none
  rw [hL];exact I.hok.fresh (Nat.le_refl _)
 ·have e:cenv.cells.lookup y=some c:=e
  rcases mem e with ⟨h1,_⟩ | ⟨h1,_⟩
  ·exact I.freeC y c h1
  ·exact I.hok.fresh (Nat.le_of_succ_le h1)
 ·exact absurd (show p∈([]:List (Addr×Obj))++[] from hp) (by simp)
theorem aeb {E:Value->Shared->Prop}{D:Addr}{xs:List V}{y:V}{v:Value}{Q:Value->Shared->Prop}(I:Inv X pins σ H s)(hD:H D=some (.lst xs))(hz:xs.length < sizeLine)(r:bA y v)
  (h:∀ s',Inv X pins σ (upd H D (.lst (xs++[y]))) s'->Q .none s'):wpAny (model X.prog X.w) X.A (call (.builtin "list.append") [.ref D,v]) Q E s:=by
 obtain ⟨hz',its,n,ri,e⟩:=I.hok D _ hD
 have hl:=ri.length
 refine append_at (hsz:=by rw [List.size_toArray];omega) e fun h' sb ho'=>?_
 refine h {s with heap:=h'} (I.write (t':=s.toks) (by rw [hD];trivial) (.inl rfl) (fun b u hb q=>(sb.2 b hb).trans q) ⟨_,ho'⟩ ⟨by rw [List.length_append];exact hz,its++[v],n+1,ri.append (.cons r .nil),?_⟩)
 rw [ho']
 simp
def PTs (X:Cx)(ifs:List Expr)(t:TT):Prop:=
 ∀ (pins:List (Addr×Obj)) (s:Shared) (σ:St) (H:Hp) (Q:Bool->Hp->Prop),Inv X pins σ H s->t σ H Q->
  wpAny (model X.prog X.w) X.A (forIn ifs true fun c r=>if r=true then do let ok <-isTrue c X.env (eval c X.env);pure (ForInStep.yield ok) else pure (ForInStep.yield r)) (TP X pins σ Q) X.xe s
def w6:TT:=fun _ H Q=>Q true H
theorem oP:PTs X [] w6:=fun _ _ _ H _ I h=>wpAny_tests_nil ⟨H,I,h⟩
end
theorem zu {α:Type}{t:Sem α}{Q Q':α->Shared->Prop}{M:Model}{A:Around}{E:Value->Shared->Prop}{s:Shared}(h:wpAny M A t Q (fun _ _=>False) s)(hQ:∀ a s,Q a s->Q' a s):wpAny M A t Q' E s:=wpAny_mono h hQ fun _ _ z=>False.elim z
theorem tV {prog:Program}{w:World}{A:Around}{R:Result->Shared->Prop}{s:Shared}{elt target iter:Expr}{ifs:List Expr}{scope:Scope}{pos:Pos}{it acc:Value}{env:Env}(I:Nat->Shared->Prop)
  (turn:∀ n s,I n s->wpAny (model prog w) A (pyNext it) (fun r s₁=>match r with
   | none=>R (.ok .next) s₁
   | some v=>wpAny (model prog w) A (letOwnedTupleGo target it v) (fun _ s₁'=>wpAny (model prog w) A (assign target env v) (fun _ s₂=>
     wpAny (model prog w) A (forIn ifs true fun c r=>if r=true then do let ok <-isTrue c env (eval c env);pure (ForInStep.yield ok) else pure (ForInStep.yield r)) (fun ok s₃=>
      if ok=true then wpAny (model prog w) A (eval elt env) (fun x s₄=>
       wpAny (model prog w) A (call (.builtin "list.append") [acc,x]) (fun _ s₅=>∃ m,m < n/\I m s₅) (notedBy (model prog w) A env fun e s'=>R (.error e) s') s₄) (notedBy (model prog w) A env fun e s'=>R (.error e) s') s₃
      else ∃ m,m < n/\I m s₃) (notedBy (model prog w) A env fun e s'=>R (.error e) s') s₂) (notedBy (model prog w) A env fun e s'=>R (.error e) s') s₁') (notedBy (model prog w) A env fun e s'=>R (.error e) s') s₁) (notedBy (model prog w) A env fun e s'=>R (.error e) s') s)
  (n:Nat) (h:I n s):
  codeAny (model prog w) A (.compLoop (.ListComp elt [⟨target,iter,ifs,0⟩] scope pos) 0 it acc env) R s:=by
 refine codeAny_loop rfl I (fun n s hI=>?_) n h
 show wpAny _ A ((compTurn (.ListComp elt [⟨target,iter,ifs,0⟩] scope pos) 0 it acc env).onRaise (fun x=>do noteFrame x env;theTreesLotGoes x)) _ _ s
 refine wpAny_noted ?_
 rw [compTurn_list]
 refine wpAny_bind (wpAny_standAt (wpAny_bind (wpAny_mono (turn n s hI) (fun r s₁ h₁=>?_) fun _ _ h'=>h')))
 cases r with
 | none=>exact wpAny_pure h₁
 | some v=>
  refine wpAny_bind (wpAny_mono h₁ (fun _ s₁' h₁'=>?_) fun _ _ h'=>h')
  refine wpAny_bind (wpAny_mono h₁' (fun _ s₂ h₂=>wpAny_bind (wpAny_mono h₂ (fun ok s₃ h₃=>?_) fun _ _ h'=>h')) fun _ _ h'=>h')
  cases ok with
  | false=>exact wpAny_pure ⟨rfl,h₃⟩
  | true=>
   exact wpAny_bind (wpAny_bind (wpAny_mono h₃ (fun x s₄ h₄=>wpAny_bind (wpAny_mono h₄ (fun _ s₅ h₅=>wpAny_pure (wpAny_pure ⟨rfl,h₅⟩)) fun _ _ h'=>h')) fun _ _ h'=>h'))
section
variable {X:Cx}
def tLc (wi:TI)(g:TG)(tt:TT)(te:TE)(vs:List Nat):TE:=fun σ H Q=>wi σ H fun J H1=>∀ D,H1 D=none->∃ W:Nat->Nat->Hp->Prop,(∃ m,W 0 m (upd H1 D (.lst [])))/\∀ i m H,W i m H->
 (J.stop i H/\Q (.ref D) H)\/(J.go i H/\∃ Nx:Hp->Prop,(∀ H',Nx H'->∃ m',m' < m/\W (i+1) m' H')/\∀ x H',J.yld i H x H'->g x (wipe σ vs) H' fun σ2 H2=>wipe σ2 vs=wipe σ vs/\tt σ2 H2 fun b H3=>
  if b=true then te σ2 H3 fun y H4=>∃ acc,H4 D=some (.lst acc)/\acc.length < sizeLine/\Nx (upd H4 D (.lst (acc++[y]))) else Nx H3)
theorem yl {pins:List (Addr×Obj)}{s:Shared}{σ:St}{H:Hp}{Q:VK}{elt tg iter:Expr}{ifs:List Expr}{scope:Scope}{own:List (Str×Nat)}{pos pos':Pos}{wi:TI}{g:TG}{tt:TT}{te:TE}{use:Option (Value->Sem Unit)}{Qf:Value->Shared->Prop}
  (hc:X.calm=true)(hN:X.N.Nodup)(I:Inv X pins σ H s)(hi:PI X tg iter wi)(ok:m4 X.N X.env.scope scope own)
  (hg:∀ (s:Shared) (H:Hp) (C:Addr) (cl:List (Str×Addr)) (fp:List Addr),PG (X.blk s H scope (compEnvC scope cl C X.env) fp) tg g)(ht:∀ (s:Shared) (H:Hp) (C:Addr) (cl:List (Str×Addr)) (fp:List Addr),PTs (X.blk s H scope (compEnvC scope cl C X.env) fp) ifs tt)
  (he:∀ (s:Shared) (H:Hp) (C:Addr) (cl:List (Str×Addr)) (fp:List Addr),PE (X.blk s H scope (compEnvC scope cl C X.env) fp) elt te)(hs:∀ x,foldedSetIterable iter X.env x=pure x)
  (h:tLc wi g tt te (own.map (·.2)) σ H Q)
  (hRR:∀ D C s' m H',Inv X pins σ H' s'->Q (.ref D) H'->s'.heap.Ns C m->nw X pins H' C->compPost (model X.prog X.w) X.A X.xe use Qf (.ref D) C (.ok .next) s'):
  wpAny (model X.prog X.w) X.A (comprehension (.ListComp elt [⟨tg,iter,ifs,0⟩] scope pos) scope X.env pos' (newList []) false (eval iter X.env) use) Qf X.xe s:=by
 have hfree:∀ y∈scope.names,y.2=.free->∃ c,X.env.cells.lookup y.1=some c:=fun y hy e=>by
  rcases ok.free y hy e with k | k
  ·exact I.ok.has _ (.inl k)
  ·exact I.ok.has _ (.inr k)
 refine wpAny_comprehension_free (use:=use) rfl hs (xh hfree) ok.kind (fun y hy e=>by rw [ok.uniq y hy,e])
  (thn (hi pins s σ H _ I h) fun xv s1 hx=>thn hx fun itv s2 h2=>?_)
 obtain ⟨it,fp,tn,J,H2,e,I2,T,st2,f2,q⟩:=h2
 subst e
 refine wpAny_newObj_type (wy ?_) (by show 0<=sizeLine;decide)
 generalize hD:s2.heap.objs.size=D
 have hDn:H2 D=none:=I2.hok.fresh (Nat.le_of_eq hD)
 obtain ⟨W,⟨m0,w0⟩,turn⟩:=q D hDn
 generalize hs3:({s2 with heap:=s2.heap.push {cls:=.type "list",data:=.seq ([]:List Value).toArray}}:Shared)=s3
 have I3:Inv X pins σ (upd H2 D (.lst [])) s3:=by
  rw [<-hs3]
  refine I2.laid (t':=s2.toks) (fun b o e=>Heap.get?_push_of_some _ e) (Nat.le_of_eq hD) ⟨Nat.zero_le _,[],0,.nil,?_⟩
  rw [<-hD]
  exact Heap.get?_push_size _ rfl
 have h3:s3.heap=s2.heap.push {cls:=.type "list",data:=.seq ([]:List Value).toArray}:=by rw [<-hs3]
 have sz:∀ b∈fp,b < s2.heap.objs.size:=fun b hb=>by
  obtain ⟨o,e,_⟩:=T.obj _ _ st2 b hb
  exact Heap.lt_size e
 have f3:∀ b∈fp,nw X pins (upd H2 D (.lst [])) b/\b < s3.heap.objs.size:=fun b hb=>by
  have hlt:=sz b hb
  refine ⟨⟨?_,(f2 b hb).2⟩,by rw [h3,Heap.size_push];exact Nat.lt_succ_of_lt hlt⟩
  rw [am (by rw [<-hD];exact Nat.ne_of_lt hlt)]
  exact (f2 b hb).1
 have st3:tn 0 s3.heap:=T.keep _ _ _ st2 fun b _ o e=>by rw [h3];exact Heap.get?_push_of_some _ e
 have I4:=vL I3 ok hN f3
 have pg:=hg s3 (upd H2 D (.lst [])) s3.heap.objs.size (cellsFrom (s3.heap.objs.size+1) scope.names (bB X.env.cells scope.names [])) fp
 have pt:=ht s3 (upd H2 D (.lst [])) s3.heap.objs.size (cellsFrom (s3.heap.objs.size+1) scope.names (bB X.env.cells scope.names [])) fp
 have pe:=he s3 (upd H2 D (.lst [])) s3.heap.objs.size (cellsFrom (s3.heap.objs.size+1) scope.names (bB X.env.cells scope.names [])) fp
 show codeAny _ _ (.compStart (.ListComp elt [⟨tg,iter,ifs,0⟩] scope pos) 0 (.ref it) (.ref D) (compEnvC scope (cellsFrom (s3.heap.objs.size+1) scope.names (bB X.env.cells scope.names [])) s3.heap.objs.size X.env)) (compPost (model X.prog X.w) X.A X.xe use Qf (.ref D) s3.heap.objs.size) {s3 with heap:=pushCells (s3.heap.push {cls:=.type "dict",data:=.dict #[]}) scope.names}
 have nfp:∀ b∈fp,(upd H2 D (.lst [])) b=none:=fun b hb=>(f3 b hb).1.1
 generalize hce:compEnvC scope (cellsFrom (s3.heap.objs.size+1) scope.names (bB X.env.cells scope.names [])) s3.heap.objs.size X.env=ce at I4 pg pt pe ⊢
 have cL:ce.locals=s3.heap.objs.size:=by subst hce;rfl
 generalize hH3:upd H2 D (.lst [])=H3 at I3 I4 pg pt pe w0 nfp f3
 generalize hs4:({s3 with heap:=pushCells (s3.heap.push {cls:=.type "dict",data:=.dict #[]}) scope.names}:Shared)=s4 at I4 ⊢
 have st4:tn 0 s4.heap:=T.keep _ _ _ st3 fun b _ o e=>by rw [<-hs4];exact pushCells_keeps _ _ _ _ (Heap.get?_push_of_some _ e)
 have stat:∀ {σ':St} {H':Hp} {s':Shared},Inv (X.blk s3 H3 scope ce fp) [] σ' H' s'->(∀ b∈fp,H' b=none)->∀ b∈fp,nw (X.blk s3 H3 scope ce fp) [] H' b:=fun {σ' H' s'} I' hn b hb=>
  ⟨hn b hb,(I'.ok.exf b hb).1,I'.ok.exfs b hb,.inl hb,fun x c e=>(I'.ok.exf b hb).2 x c e,fun p hp=>absurd (show p∈([]:List (Addr×Obj))++[] from hp) (by simp)⟩
 have loop:codeAny (model X.prog X.w) X.A (.compLoop (.ListComp elt [⟨tg,iter,ifs,0⟩] scope pos) 0 (.ref it) (.ref D) ce) (compPost (model X.prog X.w) X.A X.xe use Qf (.ref D) s3.heap.objs.size) s4:=by
  refine tV (fun n s'=>∃ i H',Inv (X.blk s3 H3 scope ce fp) [] (wipe σ (own.map (·.2))) H' s'/\tn i s'.heap/\(∀ b∈fp,H' b=none)/\W i n H') ?_ m0 ⟨0,H3,I4,st4,nfp,w0⟩
  rintro n s5 ⟨i,H5,I5,st5,n5,w5⟩
  rcases turn i n H5 w5 with ⟨stop,qq⟩ | ⟨go,Nx,hNx,step⟩
  ·have td:=T.done (X.blk s3 H3 scope ce fp) rfl rfl rfl hc i [] s5 _ H5 (fun _ _=>False) I5 (stat I5 n5) st5 stop
   refine zu td fun r s6 ⟨hr,I6⟩=>?_
   subst hr
   have I7:Inv X pins σ H5 s6:=I3.call' (ch:=fp) I6.os I6.base I6.hok I6.bare fun b hb=>⟨(f3 b hb).1.2.2.2.1,(f3 b hb).1.2.1,(f3 b hb).1.2.2.2.2.1,(f3 b hb).1.2.2.2.2.2⟩
   have nC:H5 s3.heap.objs.size=none:=by
    have z:H5 ce.locals=none:=I6.free
    rw [cL] at z
    exact z
   obtain ⟨m,hn,_⟩:=I6.loc
   have hn:s6.heap.Ns ce.locals m:=hn
   rw [cL] at hn
   exact hRR D s3.heap.objs.size s6 m H5 I7 qq hn (I3.fpOk (Nat.le_refl _) nC)
  ·have ti:=T.item (X.blk s3 H3 scope ce fp) rfl rfl rfl hc i [] s5 _ H5 (fun _ _=>False) I5 (stat I5 n5) st5 go
   refine zu ti fun r s6 ⟨u,hr,h6⟩=>?_
   subst hr
   refine zu h6 fun _ s7 ⟨x,H7,I7,r7,y7,st7,n7⟩=>?_
   have I7':=I7.pinned (stat I7 n7) (T.obj _ _ st7)
   refine zu (pg _ s7 _ H7 x u _ I7' r7 (step x H7 y7)) fun _ s8 ⟨σ8,H8,I8,hw8,q8⟩=>?_
   refine zu (pt _ s8 σ8 H8 _ I8 q8) fun b s9 ⟨H9,I9,q9⟩=>?_
   have fin:∀ {s':Shared} {H':Hp},Inv (X.blk s3 H3 scope ce fp) ([]++pY fp s7.heap) σ8 H' s'->Nx H'->∃ m,m < n/\∃ i H',Inv (X.blk s3 H3 scope ce fp) [] (wipe σ (own.map (·.2))) H' s'/\tn i s'.heap/\(∀ b∈fp,H' b=none)/\W i m H':=fun {s' H'} I' nx=>by
    obtain ⟨m',hm,w'⟩:=hNx H' nx
    have pin':∀ b∈fp,∀ o,s7.heap.get? b=some o->s'.heap.get? b=some o/\H' b=none:=fun b hb o e=>
     let z:=I'.pin (b,o) (List.mem_append_right _ (List.mem_append_right _ (kb hb e)))
     ⟨z.1,z.2.1⟩
    have hl:(wipe σ (own.map (·.2))).length=σ8.length:=by rw [<-hw8,jq]
    refine ⟨m',hm,i+1,H',(I'.unpinned (pins:=[])).weak hl (fun j v e=>?_),T.keep _ _ _ st7 fun b hb o e=>(pin' b hb o e).1,fun b hb=>?_,w'⟩
    ·rw [<-hw8] at e
     exact (mL e).1
    ·obtain ⟨o,e,_⟩:=T.obj _ _ st7 b hb
     exact (pin' b hb o e).2
   cases b with
   | false=>
    simp only [Bool.false_eq_true,if_false] at q9 ⊢
    exact fin I9 q9
   | true=>
    simp only [if_true] at q9 ⊢
    refine zu (pe _ s9 σ8 H9 _ I9 q9) fun z s10 ⟨yv,H10,I10,r10,acc,hD10,hz10,nx⟩=>?_
    exact aeb (X:=X.blk s3 H3 scope ce fp) I10 hD10 hz10 r10 fun s11 I11=>fin I11 nx
 exact codeAny_compStart_list loop (T.self X.A 0 _ _ _ st4 loop)
theorem adC {elt tg iter:Expr}{ifs:List Expr}{scope:Scope}{own:List (Str×Nat)}{pos:Pos}{wi:TI}{g:TG}{tt:TT}{te:TE}(hc:X.calm=true)(hN:X.N.Nodup)(hi:PI X tg iter wi)(ok:m4 X.N X.env.scope scope own)
  (hg:∀ (s:Shared) (H:Hp) (C:Addr) (cl:List (Str×Addr)) (fp:List Addr),PG (X.blk s H scope (compEnvC scope cl C X.env) fp) tg g)(ht:∀ (s:Shared) (H:Hp) (C:Addr) (cl:List (Str×Addr)) (fp:List Addr),PTs (X.blk s H scope (compEnvC scope cl C X.env) fp) ifs tt)
  (he:∀ (s:Shared) (H:Hp) (C:Addr) (cl:List (Str×Addr)) (fp:List Addr),PE (X.blk s H scope (compEnvC scope cl C X.env) fp) elt te)(hs:∀ x,foldedSetIterable iter X.env x=pure x:=by intro _;rfl):
  PE X (.ListComp elt [⟨tg,iter,ifs,0⟩] scope pos) (tLc wi g tt te (own.map (·.2))):=by
 intro pins s σ H Q I h
 rw [eval_ListComp]
 refine yl hc hN I hi ok hg ht he hs h fun D C s' m H' I' q hn f=>⟨m,hn,fun h'' sb=>?_⟩
 obtain ⟨f0,f1,f2,f3,f4,f5⟩:=f
 exact ⟨.ref D,H',I'.turned (t':=s'.toks) (fun b o hb e=>(sb.2 b hb).trans e) f0 f1 f3 f4 f5,rfl,q⟩
theorem vS {i:Nat}{y:Str}{py:Pos}{elt tg iter:Expr}{ifs:List Expr}{scope:Scope}{own:List (Str×Nat)}{pos spos:Pos}{wi:TI}{g:TG}{tt:TT}{te:TE}(hc:X.calm=true)(hN:X.N.Nodup)(hy:X.N[i]?=some y)(hyl:X.env.scope.names.lookup y=some .local)
  (hsw:swapsWith (.ListComp elt [⟨tg,iter,ifs,0⟩] scope pos) (some (.Name y py)) spos.line X.env=pure true)(hi:PI X tg iter wi)(ok:m4 X.N X.env.scope scope own)
  (hg:∀ (s:Shared) (H:Hp) (C:Addr) (cl:List (Str×Addr)) (fp:List Addr),PG (X.blk s H scope (compEnvC scope cl C X.env) fp) tg g)(ht:∀ (s:Shared) (H:Hp) (C:Addr) (cl:List (Str×Addr)) (fp:List Addr),PTs (X.blk s H scope (compEnvC scope cl C X.env) fp) ifs tt)
  (he:∀ (s:Shared) (H:Hp) (C:Addr) (cl:List (Str×Addr)) (fp:List Addr),PE (X.blk s H scope (compEnvC scope cl C X.env) fp) elt te)(hs:∀ x,foldedSetIterable iter X.env x=pure x:=by intro _;rfl):
  PS X (.Assign [.Name y py] (.ListComp elt [⟨tg,iter,ifs,0⟩] scope pos) spos) (aev (tLc wi g tt te (own.map (·.2))) (cH i)):=by
 intro pins s σ H D I h
 rw [exec_Assign_Name_used _ _ _ _ hsw]
 refine wpAny_bind (wpAny_standAt (wpAny_bind ?_))
 show wpAny _ X.A (do let _ <-comprehension (.ListComp elt [⟨tg,iter,ifs,0⟩] scope pos) scope X.env (firstIterPos [⟨tg,iter,ifs,0⟩] pos) (newList []) false (eval iter X.env) (some (assign (.Name y py) X.env))) _ _ s
 have h:tLc wi g tt te (own.map (·.2)) σ H (fun x H1=>cH i x σ H1 D.nx):=h
 refine wpAny_bind (thn (yl (Qf:=fun _ s'=>SP X pins D .next s') hc hN I hi ok hg ht he hs h fun L C s' m H' I' q hn f=>?_) fun _ s' hq=>wpAny_pure (wpAny_pure hq))
 show wpAny _ _ (assign (.Name y py) X.env (.ref L)) _ _ _
 refine wpAny_assign_Name (sw (v:=V.ref L) I' hN hy (.inl hyl) rfl (fun s2 I2 ⟨a,sb,ha⟩=>?_) (.inr hyl))
 obtain ⟨f0,f1,f2,f3,f4,f5⟩:=f
 have haC:C≠a:=by
  rcases ha with z | z
  ·rw [z];exact f1
  ·exact fun e=>f4 y a z e.symm
 refine ⟨m,hn.sameBut sb haC,fun h3 sb3=>?_⟩
 exact ⟨_,H',I2.turned (t':=s2.toks) (fun b o hb e=>(sb3.2 b hb).trans e) f0 f1 f3 f4 f5,q⟩
theorem xU {elt:Expr}{gs:List Comprehension}{scope:Scope}{pos py:Pos}{y:Str}{l:Nat}{env:Env}(hk:env.scope.kind=.function)(hy:env.scope.names.lookup y=some .local)(hl:(py.line == pos.line)=true)
  (ha:(scope.names.any fun (n,k)=>n == y&&(k == .local || k == .cell))=false):swapsWith (.ListComp elt gs scope pos) (some (.Name y py)) l env=pure true:=by
 have ky:env.kindOf y=some .local:=hy
 have hb:env.blockKind=.function:=by unfold Env.blockKind;rw [hk];rfl
 unfold swapsWith
 simp only [hb,ky,ha,Expr.pos,hl]
 rfl
end
def wB (N:List Str)(sc scope:Scope)(own:List (Str×Nat)):Bool:=
 (match scope.kind with | .function=>true | _=>false)&&(scope.names.all fun y=>decide (scope.names.lookup y.1=some y.2))&&(own.all fun p=>decide (N[p.2]?=some p.1)) &&
  (scope.names.all fun y=>match y.2 with
   | .free=>(match sc.names.lookup y.1 with | some .cell=>true | some .free=>true | _=>false)
   | .local=>decide (y.1∈own.map (·.1)) || decide (y.1 ∉ N)
   | .cell=>decide (y.1∈own.map (·.1)) || decide (y.1 ∉ N)
   | _=>true)
theorem ic {N:List Str}{sc scope:Scope}{own:List (Str×Nat)}(h:wB N sc scope own=true):m4 N sc scope own:=by
 unfold wB at h
 simp only [Bool.and_eq_true,List.all_eq_true,decide_eq_true_eq] at h
 obtain ⟨⟨⟨h1,h2⟩,h3⟩,h4⟩:=h
 refine ⟨?_,h2,h3,fun y hy e=>?_,fun y hy e=>?_⟩
 ·split at h1
  ·assumption
  ·cases h1
 ·have q:=h4 y hy
  simp only [e] at q
  split at q<;>first | exact .inl (by assumption) | exact .inr (by assumption) | cases q
 ·have q:=h4 y hy
  rcases e with e | e<;>(simp only [e,Bool.or_eq_true,decide_eq_true_eq] at q;exact q)
end L2
namespace L2
open PySem PySem.Spec PyProof.Rows
section
variable {prog:Program}{w:World}{A:Around}{R:Result->Shared->Prop}{s:Shared}{elt t0 i0 t1 i1:Expr}{ifs0 ifs1:List Expr}{scope:Scope}{pos:Pos}{it acc:Value}{env:Env}
end
section
variable {X:Cx}
end
end L2
namespace L2
open PySem PySem.Spec PyProof.Rows
section
variable {κ:Type}[DecidableEq κ]
end
section
variable {P:Program}{w:World}{H:Hp}{h:Heap}{a:Addr}
end
section
variable {X:Cx}{pins:List (Addr×Obj)}{σ:St}{H:Hp}{s:Shared}{a:Addr}{y v:V}{u r:Value}{o:Option V}{A:Around}{E:Value->Shared->Prop}
end
section
variable {X:Cx}{pins:List (Addr×Obj)}{σ:St}{H:Hp}{s:Shared}{a:Addr}{kvs:List (Key×V)}{k:Key}{u:Value}{A:Around}{E:Value->Shared->Prop}
end
section
variable {X:Cx}{o i e value:Expr}{pos pos' tpos:Pos}{td ty tv:TE}
end
section
variable {X:Cx}{pos:Pos}
end
section
variable {X:Cx}{pins:List (Addr×Obj)}{σ:St}{H:Hp}{s:Shared}{a:Addr}{y d:V}{u r:Value}{o:Option V}{A:Around}{E:Value->Shared->Prop}
end
section
variable {X:Cx}{o e f:Expr}{apos cpos:Pos}{td ty tx:TE}
end
section
variable {X:Cx}{pins:List (Addr×Obj)}{σ:St}{H:Hp}{s:Shared}{a:Addr}{kvs:List (Key×V)}{A:Around}{E:Value->Shared->Prop}
end
section
variable {X:Cx}{pins:List (Addr×Obj)}{σ:St}{H:Hp}{s:Shared}{a:Addr}{y:V}{u:Value}{A:Around}{E:Value->Shared->Prop}
end
end L2
namespace L2
open PySem PySem.Spec PyProof.Rows
section
variable {prog:Program}{w:World}{A:Around}{E:Value->Shared->Prop}
end
section
variable {X:Cx}
end
end L2
namespace L2
open PySem PySem.Spec PyProof.Rows
section
variable {X:Cx}{pins:List (Addr×Obj)}{σ:St}{H:Hp}{s:Shared}{h':Heap}
theorem Inv.turnedL {t':Nat}{ch:List Addr}(I:Inv X pins σ H s)(k:∀ b o,b ∉ ch->s.heap.get? b=some o->h'.get? b=some o)(hf:∀ b∈ch,nw X pins H b):Inv X pins σ H {s with heap:=h',toks:=t'}:=by
 have nit:∀ b u,H b=some u->b ∉ ch:=fun b u e z=>by
  have q:=(hf b z).1
  rw [q] at e;cases e
 refine I.step (g':=s.gens) (d':=s.drawn) (ch:=ch) (fun b hb=>⟨(hf b hb).2.2.2.1,(hf b hb).2.1,(hf b hb).2.2.2.2.1,(hf b hb).2.2.2.2.2⟩) (fun b o _ _ hc e _=>k b o hc e) (fun b o _ _ hc e _=>⟨o.slots,k b o hc e⟩)
  (fun _ _ _ _ n=>n) (fun b o hc e=>⟨o,k b o hc e⟩) (fun _ _ e=>e) (fun _ _ _ e=>e) (fun b ps e=>⟨#[],by rw [e];simp⟩) (fun m hm=>?_) (fun b u e=>?_) I.bare
 ·obtain ⟨o,es,ep,ho,r⟩:=hm
  exact ⟨o,es,ep,k _ o (fun z=>(hf _ z).2.1 rfl) ho,r⟩
 ·refine (I.hok b u e).stay (fun c v hc q=>k c v ?_ q) (fun _ q=>q) fun _ _ q=>q
  rcases hc with z | z
  ·rw [z];exact nit b u e
  ·exact nit c _ z
theorem Inv.turnedNew {t':Nat}{ch:List Addr}{T:Addr}{ob:HO}(I:Inv X pins σ H s)(k:∀ b o,b ∉ ch->s.heap.get? b=some o->h'.get? b=some o)(hf:∀ b∈ch,nw X pins H b)(hT:s.heap.objs.size<=T)
  (new:dH X.prog X.w (upd H T ob) h' T ob):Inv X pins σ (upd H T ob) {s with heap:=h',toks:=t'}:=by
 have hn:H T=none:=I.hok.fresh hT
 have nit:∀ b u,H b=some u->b ∉ ch:=fun b u e z=>by
  have q:=(hf b z).1
  rw [q] at e;cases e
 refine I.step (g':=s.gens) (d':=s.drawn) (ch:=ch) (fun b hb=>⟨(hf b hb).2.2.2.1,(hf b hb).2.1,(hf b hb).2.2.2.2.1,(hf b hb).2.2.2.2.2⟩) (fun b o _ _ hc e _=>k b o hc e) (fun b o _ _ hc e _=>⟨o.slots,k b o hc e⟩)
  (fun b o _ e n=>?_) (fun b o hc e=>⟨o,k b o hc e⟩) (fun b xs e=>?_) (fun b o u e=>?_) (fun b ps e=>⟨#[],?_⟩) (fun m hm=>?_) (fun b u e=>?_) I.bare
 ·rw [am (Nat.ne_of_lt (Nat.lt_of_lt_of_le (Heap.lt_size e) hT))];exact n
 ·rw [am (aM e hn)];exact e
 ·rw [am (aM e hn)];exact e
 ·rw [am (aM e hn),e];simp
 ·obtain ⟨o,es,ep,ho,r⟩:=hm
  exact ⟨o,es,ep,k _ o (fun z=>(hf _ z).2.1 rfl) ho,r⟩
 ·by_cases hb:b=T
  ·subst hb
   rw [aj] at e
   cases e
   exact new
  ·rw [am hb] at e
   refine (I.hok b u e).stay (fun c v hc q=>k c v ?_ q) (fun c q=>by rw [am (aM q hn)];exact q) fun c xs q=>by rw [am (aM q hn)];exact q
   rcases hc with z | z
   ·rw [z];exact nit b u e
   ·exact nit c _ z
end
section
variable {X:Cx}
theorem ae0 {tg:Expr}{pins:List (Addr×Obj)}{σ:St}{H:Hp}{s:Shared}{R:It->Hp->Prop}{J:It}{tn:Nat->Heap->Prop}{tk:Nat}(I:Inv X pins σ H s)(o:Obj)
  (T:Turn X.prog X.w X.K tg J [s.heap.objs.size] s.heap.objs.size tn)(st:tn 0 (s.heap.push o))(q:R J H):PIE X pins σ tg R (.ref s.heap.objs.size) {s with heap:=s.heap.push o,toks:=tk}:=by
 refine ⟨s.heap.objs.size,[s.heap.objs.size],tn,J,H,rfl,I.kept fun b ob e=>Heap.get?_push_of_some _ e,T,st,fun b hb=>?_,q⟩
 have e:b=s.heap.objs.size:=by simpa using hb
 subst e
 exact I.fpOk (Nat.le_refl _) (I.hok.fresh (Nat.le_refl _))
end
def Itc (lo c:Int)(n:Nat):It:=⟨fun i _=>i < n,fun i H x H'=>H'=H/\x=.int (lo+(i:Nat) * c),fun i _=>n<=i⟩
theorem wa {P:Program}{w:World}{K:PySem.W.Frag}{tg:Expr}(it:Addr)(lo c:Int)(n:Nat):Turn P w K tg (Itc lo c n) [it] it (fun i h=>IsRangeIter h it (lo+(i:Nat) * c) ((n:Int) - (i:Nat)) c) where
 mem:=by simp
 obj:=fun i h st b hb=>by
  have e:b=it:=by simpa using hb
  subst e
  exact ⟨_,st,fun v z=>nomatch z⟩
 keep:=fun i h h' st k=>k it (by simp) _ st
 item:=by
  intro X hP hw hK hc i pins s σ H E I hf st hg
  subst hP hw hK
  obtain ⟨f0,f1,f2,f3,f4,f5⟩:=hf it (by simp)
  have W:=Walks.range (prog:=X.prog) (w:=X.w) (I.ok.hd hc) it lo c n
  refine W.item i s _ _ hg st fun v h' tk hv st' kk=>?_
  obtain ⟨t,rfl⟩:=hv
  have I1:Inv X pins σ H {s with heap:=h',toks:=tk}:=I.turned (fun b o hb e=>kk b o (by simpa using hb) e) f0 f1 f3 f4 f5
  exact ⟨_,rfl,abt (s:={s with heap:=h',toks:=tk}) (n:="range_iterator") st' rfl rfl (by decide) ⟨.int (lo+(i:Nat) * c),H,I1,⟨t,rfl⟩,⟨rfl,rfl⟩,st',fun b hb=>(hf b hb).1⟩⟩
 done:=by
  intro X hP hw hK hc i pins s σ H E I hf st hg
  subst hP hw hK
  obtain ⟨f0,f1,f2,f3,f4,f5⟩:=hf it (by simp)
  exact wpAny_pyNext_range_end (I.ok.hd hc) st (by have:n<=i:=hg;omega) fun h' eb=>⟨rfl,I.turned (t':=s.toks) (fun b o hb e=>eb b o hb e) f0 f1 f3 f4 f5⟩
 self:=fun A i s Q E st h=>wpAny_pyIter_rangeiter st h
def RgC (i j c:Int)(n:Nat):Prop:=c≠0/\c.natAbs < 1073741824/\Builtin.Range.small i j c=true/\Builtin.Range.rangeSize i j c=n
theorem RgC.neg {i j:Int}(ha:-(2 ^ 62)<=i)(ha':i < 2 ^ 62)(hb:-(2 ^ 62)<=j)(hb':j < 2 ^ 62):RgC i j (-1) (i - j).toNat:=
 ⟨by decide,by decide,PySem.W.small_down ha ha' hb hb',PySem.W.rangeSize_downNat i j⟩
def afA (ta:TA):TI:=fun σ H R=>ta σ H fun vs H1=>∃ (i j c:Int) (n:Nat),vs=[.int i,.int j,.int c]/\RgC i j c n/\R (Itc i c n) H1
section
variable {X:Cx}{tg:Expr}
theorem ss {a b c:Expr}{ta:TA}{p pos:Pos}(hg:Gl X "range")(hm:X.mg "range"=none)(ha:PA X [a,b,c] ta)
  (hs:starEach [a,b,c] X.env=(false,eval a X.env)::starEach [b,c] X.env:=by rfl)(hpl:(backTo pos (starEach [b,c] X.env)).any (·.1)=false:=by rfl):
  PI X tg (.Call (.Name "range" p) [a,b,c] [] pos) (afA ta):=by
 intro pins s σ H R I h
 refine Call_ (mO I hg hm boot_range (PyProof.Rows.callWith_type1 (thn (ha pos pins s σ H _ I h) fun us s1 ⟨vs,H1,I1,r1,q1⟩=>?_) hs hpl))
 obtain ⟨i,j,k,n,e,⟨c0,c1,c2,c3⟩,q⟩:=q1
 subst e
 cases r1 with
 | cons r rr=>
  cases rr with
  | cons r' rr=>
   cases rr with
   | cons r'' rr=>
    cases rr
    obtain ⟨t,rfl⟩:=r
    obtain ⟨t',rfl⟩:=r'
    obtain ⟨t'',rfl⟩:=r''
    refine call_range_3 c0 ?_ (.inl (PyProof.noPylong_small c1))
    refine wpAny_pyIter_range (IsRange.new ..) c2 ?_
    have I2:Inv X pins σ H1 {s1 with heap:=s1.heap.push {cls:=.type "range",data:=.fields #[.int i t,.int j t',.int k t'']}}:=I1.kept (t':=s1.toks) fun b o e=>Heap.get?_push_of_some _ e
    refine ae0 (tk:=s1.toks) I2 _ (wa _ i k n) ?_ q
    have e1:i+((0:Nat):Int) * k=i:=by simp
    have e2:(n:Int) - ((0:Nat):Int)=Builtin.Range.rangeSize i j k:=by rw [c3];simp
    show IsRangeIter _ _ (i+((0:Nat):Int) * k) ((n:Int) - ((0:Nat):Int)) k
    rw [e1,e2]
    exact Heap.get?_push_size _ rfl
end
section
variable {X:Cx}{tg:Expr}
end
section
variable {prog:Program}{w:World}{A:Around}{E:Value->Shared->Prop}{s:Shared}
end
section
variable {X:Cx}{pins:List (Addr×Obj)}{σ:St}{H:Hp}{s:Shared}{d:Addr}{o:Obj}
end
section
variable {P:Program}{w:World}{K:PySem.W.Frag}{tg:Expr}{d:Addr}{o:Obj}{es:Array DictEntry}{ep:Nat}
end
section
variable {X:Cx}{tg e:Expr}{td:TE}{apos cpos:Pos}
end
def Ite (K:PySem.W.Frag)(a:Addr):It:=
 ⟨fun i H=>∃ (xs:List V) (x:V),SqL K H a xs/\xs[i]?=some x,fun i H v H'=>∃ T x,v=.ref T/\H T=none/\H'=upd H T (.tup [.int (i:Nat),x])/\∀ xs,SqL K H a xs->xs[i]?=some x,fun i H=>∃ xs:List V,SqL K H a xs/\xs.length<=i⟩
theorem aaa {P:Program}{w:World}{K:PySem.W.Frag}{elts:List Expr}{kk:Nat}{tpos:Pos}(a e it:Addr):
  Turn P w K (.Tuple elts kk tpos) (Ite K a) [e,it] e (fun i h=>(∃ old,IsEnum h e it ((i:Nat):Int) old)/\h.IsListIter it a i/\e≠it) where
 mem:=by simp
 obj:=fun i h st b hb=>by
  obtain ⟨⟨old,he⟩,⟨o,ho,hc,hd⟩,_⟩:=st
  have e':b=e\/b=it:=by simpa using hb
  rcases e' with z | z
  ·rw [z];exact ⟨_,he,fun v q=>nomatch q⟩
  ·rw [z];exact ⟨o,ho,fun v q=>by rw [hd] at q;cases q⟩
 keep:=fun i h h' st k=>let ⟨⟨old,he⟩,hi,hne⟩:=st;⟨⟨old,k e (by simp) _ he⟩,hi.at fun o q=>k it (by simp) o q,hne⟩
 item:=by
  intro X hP hw hK hc i pins s σ H E I hf st hg
  subst hP hw hK
  obtain ⟨⟨old,he⟩,hit,hne⟩:=st
  obtain ⟨xs,x,hq,hx⟩:=hg
  obtain ⟨its,rv,p,hz⟩:=I.list hq
  obtain ⟨u,hu,ru⟩:=rv.get hx
  have hel:e < s.heap.objs.size:=Heap.lt_size he
  have hil:it < s.heap.objs.size:=by obtain ⟨_,q,_⟩:=hit;exact Heap.lt_size q
  refine wpAny_pyNext_enum_item he hit p.isList (x:=u) (by simpa using hu) hne fun h' ho hit' hT hsz hk=>?_
  refine ⟨_,rfl,wpAny_letOwnedTupleGo_enum (s:={s with heap:=h',toks:=s.toks+1}) ho fun h'' he' sb=>?_⟩
  have hT2:h''.get? s.heap.objs.size=some {cls:=.type "tuple",data:=.seq #[.int i s.toks,u]}:=(sb.2 _ (Nat.ne_of_gt hel)).trans hT
  have new:dH X.prog X.w (upd H s.heap.objs.size (.tup [.int (i:Nat),x])) h'' s.heap.objs.size (.tup [.int (i:Nat),x]):=
   ⟨by show 2<=sizeLine;decide,[.int i s.toks,u],.cons ⟨_,rfl⟩ (.cons ru .nil),⟨_,hT2,rfl,_,rfl⟩⟩
  have I1:Inv X pins σ (upd H s.heap.objs.size (.tup [.int (i:Nat),x])) {s with heap:=h'',toks:=s.toks+1}:=
   I.turnedNew (ch:=[e,it]) (fun b ob hb q=>(sb.2 b (fun z=>hb (by simp [z]))).trans (hk b ob (fun z=>hb (by simp [z])) (fun z=>hb (by simp [z])) q)) hf (Nat.le_refl _) new
  refine ⟨.ref s.heap.objs.size,_,I1,rfl,⟨_,x,rfl,I.hok.fresh (Nat.le_refl _),rfl,fun ys hy=>by rw [I.list_inj hy hq];exact hx⟩,⟨⟨u,?_⟩,hit'.at fun o q=>(sb.2 it (Ne.symm hne)).trans q,hne⟩,fun b hb=>?_⟩
  ·have e1:((i+1:Nat):Int)=(i:Int)+1:=by omega
   rw [e1];exact he'
  ·have hb':b < s.heap.objs.size:=by
    have e':b=e\/b=it:=by simpa using hb
    rcases e' with z | z
    ·rw [z];exact hel
    ·rw [z];exact hil
   rw [am (Nat.ne_of_lt hb')]
   exact (hf b hb).1
 done:=by
  intro X hP hw hK hc i pins s σ H E I hf st hg
  subst hP hw hK
  obtain ⟨⟨old,he⟩,hit,hne⟩:=st
  obtain ⟨xs,hq,hx⟩:=hg
  obtain ⟨its,rv,p,hz⟩:=I.list hq
  obtain ⟨f0,f1,f2,f3,f4,f5⟩:=hf it (by simp)
  have hl:=rv.length
  exact wpAny_pyNext_enum_end (I.ok.hd hc) he hit p.isList (by simp;omega) fun h' eb=>⟨rfl,I.turned (t':=s.toks) (fun b o hb q=>eb b o hb q) f0 f1 f3 f4 f5⟩
 self:=fun A i s Q E st h=>let ⟨⟨_,he⟩,_⟩:=st;wpAny_pyIter_enum he h
def afn (K:PySem.W.Frag)(ta:TA):TI:=fun σ H R=>ta σ H fun vs H1=>∃ a xs,vs=[.ref a]/\SqL K H1 a xs/\R (Ite K a) H1
theorem ym {X:Cx}{e:Expr}{ta:TA}{p pos tpos:Pos}{elts:List Expr}{kk:Nat}(hg:Gl X "enumerate")(hm:X.mg "enumerate"=none)(ha:PA X [e] ta)(hs:starEach [e] X.env=[(false,eval e X.env)]:=by rfl):
  PI X (.Tuple elts kk tpos) (.Call (.Name "enumerate" p) [e] [] pos) (afn X.K ta):=by
 intro pins s σ H R I h
 refine Call_ (mO I hg hm boot_enumerate (PyProof.Rows.callWith_type1 (thn (ha pos pins s σ H _ I h) fun us s1 ⟨vs,H1,I1,r1,q1⟩=>?_) hs rfl))
 obtain ⟨a,xs,ex,hq,q⟩:=q1
 subst ex
 cases r1 with
 | cons r rr=>
  cases rr
  cases r
  obtain ⟨its,rv,p',hz⟩:=I1.list hq
  refine call_enumerate_list p'.isList fun h' he hit hsz hk=>wpAny_pyIter_enum he ?_
  have I2:Inv X pins σ H1 {s1 with heap:=h'}:=I1.kept (t':=s1.toks) hk
  refine ⟨s1.heap.objs.size+1,[s1.heap.objs.size+1,s1.heap.objs.size],_,_,H1,rfl,I2,aaa a (s1.heap.objs.size+1) s1.heap.objs.size,⟨⟨.none,he⟩,hit,Nat.succ_ne_self _⟩,fun b hb=>?_,q⟩
  have e':b=s1.heap.objs.size+1\/b=s1.heap.objs.size:=by simpa using hb
  have hle:s1.heap.objs.size<=b:=by
   rcases e' with z | z
   ·rw [z];exact Nat.le_add_right _ _
   ·rw [z];exact Nat.le_refl _
  exact I1.fpOk hle (I1.hok.fresh hle)
theorem y8:bootBuiltins "zip"=some (.type "zip"):=by decide +kernel
end L2
section
namespace Bits
open PySem PyProof.Rows
end Bits
end
section
namespace TL
open PySem PySem.Builtin PySem.Builtin.Str PySem.StrLaws
end TL
end
namespace L2
open PySem PySem.Spec PyProof.Rows
section
variable {X:Cx}{pins:List (Addr×Obj)}{σ:St}{H:Hp}{s:Shared}{Q:VK}
end
section
variable {X:Cx}
end
section
variable {X:Cx}{o e:Expr}{to te:TE}
end
end L2
namespace L2
open PySem PySem.Spec PyProof.Rows
section
variable {X:Cx}
end
end L2
namespace Att
open PySem PySem.W PySem.Calls PyProof.Rows
section
variable {prog:Program}{w:World}{A:Around}{E:Value->Shared->Prop}{s:Shared}{K:Frag}
end
end Att
namespace L2
open PySem PySem.Spec PyProof.Rows
end L2
namespace L2
open PySem PySem.Spec PyProof.Rows
end L2
namespace L2
open PySem PySem.Spec PyProof.Rows
def aE (s:Stmt)(j:Nat):Stmt:=match s with
 | .ClassDef _ _ _ body _ _ _ _ _ _ _=>body.getD j (.Pass ⟨0,0,0,0⟩)
 | _=>.Pass ⟨0,0,0,0⟩
def jC (s:Stmt):Arguments:=match s with
 | .FunctionDef _ a _ _ _ _ _ _ _ _=>a
 | _=>{posonlyargs:=[],args:=[],vararg:=none,kwonlyargs:=[],kw_defaults:=[],kwarg:=none,defaults:=[]}
def eZ (s:Stmt):List Stmt:=match s with
 | .FunctionDef _ _ b _ _ _ _ _ _ _=>b
 | _=>[]
def ae (s:Stmt):Scope:=match s with
 | .FunctionDef _ _ _ _ _ _ sc _ _ _=>sc
 | _=>{kind:=.function,names:=[],isGenerator:=false,isCoroutine:=false}
abbrev CX0:CXT:=fun _ _ _ _ _ _=>False
abbrev E0:XK:=fun _ _ _=>False
theorem pass0 {X:Cx}:jc CX0 X E0:=fun _ _ _ _ _ _ _ h=>h.elim
structure Fun (K:PySem.W.Frag)(x qual:Str)(st:Stmt)(f:Addr)(fd:FuncData):Prop where
 ex:∃ (oc:Value) (od:Option Addr) (kV doc pm:Value) (an:Option Addr) (cdv ct:Value) (osl:Array (Option Value)),
  fd=PySem.W.fnOf x qual (jC st) (eZ st) (ae st) .none kV doc pm an cdv ct/\K.lookup f=some ⟨oc,od,.func fd,osl⟩/\PySem.W.codeIn K cdv qual=true
 kp:PySem.W.keepIn K (.ref f)=true
section
variable {P:Program}{w:World}{K:PySem.W.Frag}{mg:Str->Option Value}{base:Heap}
theorem Fun.ok {x qual:Str}{st:Stmt}{f:Addr}{fd:FuncData}{N ps:List Str}{k:Nat}{sp:Sp}(F:Fun K x qual st f fd)(S:af N ps (ae st))(len:∀ vs H Q E,sp vs H Q E->vs.length=ps.length)
  (hbody:∀ (cdv:Value) (A:Around) (outer:List Env) (s:Shared) (H:Hp) (vs:List V) (Q:VK) (E:XK),Room k (A.deeper (envOfC qual (ae st) s.heap.objs.size f cdv))->sp vs H Q E->
   ∃ t,PSs (pK CX0 P w K mg base N qual (ae st) f cdv A outer s H E).nox (eZ st) t/\t {nx:=fun _ H'=>Q .non H',rt:=Q} (start N vs) H):eI P w K mg base CX0 (k+1) f fd ps sp:=by
 obtain ⟨oc,od,kV,doc,pm,an,cdv,ct,osl,rfl,lk,hcd⟩:=F.ex
 refine afj lk hcd S len fun A outer s H vs Q E hr hsp=>?_
 obtain ⟨t,h,q⟩:=hbody cdv A outer s H vs Q E hr hsp
 exact ⟨t,h.nox,q⟩
theorem Fun.binds {x qual:Str}{st:Stmt}{f:Addr}{fd:FuncData}{ps:List Str}(F:Fun K x qual st f fd)
  (h:∀ (kV doc pm:Value) (an:Option Addr) (cdv ct:Value) (us:List Value),us.length=ps.length->bindArgs (PySem.W.fnOf x qual (jC st) (eZ st) (ae st) .none kV doc pm an cdv ct) ⟨us,[]⟩=pure (ps.zip us)):Binds K fd ps []:=by
 obtain ⟨oc,od,kV,doc,pm,an,cdv,ct,osl,rfl,lk,hcd⟩:=F.ex
 exact .all (h kV doc pm an cdv ct)
theorem tG {x qual:Str}{st:Stmt}{f:Addr}{oc:Value}{od an:Option Addr}{osl:Array (Option Value)}{kV doc pm cdv ct:Value}(l:K.lookup f=some ⟨oc,od,.func (PySem.W.fnOf x qual (jC st) (eZ st) (ae st) .none kV doc pm an cdv ct),osl⟩)
  (c:PySem.W.codeIn K cdv qual=true)(k:PySem.W.keepIn K (.ref f)=true):Fun K x qual st f (PySem.W.fnOf x qual (jC st) (eZ st) (ae st) .none kV doc pm an cdv ct):=⟨⟨oc,od,kV,doc,pm,an,cdv,ct,osl,rfl,l,c⟩,k⟩
end
theorem adI {A:Around}{k:Nat}(hr:Room k A):A.units+1 < cLine:=Nat.lt_of_le_of_lt (Nat.add_le_add_left (by decide:1<=64) _) hr.units
theorem mv {n:Nat}(h:n<=1000):n < sizeLine:=Nat.lt_of_le_of_lt h (by decide)
section
variable {X:Cx}
end
theorem aeC {A B:Prop}(h:A):if true=true then A else B:=by
 rw [if_pos rfl]
 exact h
def Same (H H':Hp):Prop:=∀ b o,H b=some o->H' b=some o
theorem Same.trans {H H1 H2:Hp}(a:Same H H1)(b:Same H1 H2):Same H H2:=fun c o h=>b c o (a c o h)
theorem Same.free {H H':Hp}(e:Same H H'){l:Addr}(h:H' l=Option.none):H l=Option.none:=by
 cases q:H l with
 | none=>rfl
 | some o=>
  rw [e l o q] at h
  cases h
theorem Same.seq {K:PySem.W.Frag}{H H':Hp}{a:Addr}{xs:List V}(e:Same H H')(h:SqL K H a xs):SqL K H' a xs:=by
 rcases h with (h | ⟨o,h⟩) | h
 ·exact .inl (.inl (e _ _ h))
 ·exact .inl (.inr ⟨o,e _ _ h⟩)
 ·exact .inr h
section
variable {κ:Type}[DecidableEq κ]
theorem sS:∀ {l:List κ} {k:κ},l.Nodup->¬ k∈l->(l++[k]).Nodup
 | [],k,_,_=>by simp
 | a::r,k,h,hk=>by
  obtain ⟨h1,h2⟩:=List.nodup_cons.mp h
  show (a::(r++[k])).Nodup
  refine List.nodup_cons.mpr ⟨fun m=>?_,sS h2 fun m=>hk (List.mem_cons.mpr (Or.inr m))⟩
  rcases List.mem_append.mp m with q | q
  ·exact h1 q
  ·exact hk (List.mem_cons.mpr (Or.inl (List.mem_singleton.mp q).symm))
end
theorem adt {α:Type}{l:List α}(hN:l.Nodup){i j:Nat}{x:α}(a:l[i]?=some x)(b:l[j]?=some x):i=j:=by
 obtain ⟨h1,e1⟩:=List.getElem?_eq_some_iff.mp a
 obtain ⟨h2,e2⟩:=List.getElem?_eq_some_iff.mp b
 exact (List.getElem_inj hN).mp (e1.trans e2.symm)
theorem Same.made {H H1:Hp}{x dx C:Addr}(nx:H x=Option.none)(nd:H dx=Option.none)(k:∀ b o,(upd (upd H dx (.own x)) x (.ins C dx [])) b=some o->b≠x->H1 b=some o):Same H H1:=fun b o e=>
 k b o (by rw [am (aM e nx),am (aM e nd)];exact e) (aM e nx)
end L2
section
set_option maxHeartbeats 2000000
namespace L2
open PySem PySem.Spec PyProof.Rows
open PySem.W (WData Codec OpenSpec Well WellAll ReadsW ReadsAllW)
mutual
inductive Dw (K:PySem.W.Frag)(H:Hp):V->WData->Prop
 | non:Dw K H .non .none
 | bl (b:Bool):Dw K H (.bl b) (.bool b)
 | int (i:Int):Dw K H (.int i) (.int i)
 | str (x:Str):Dw K H (.str x) (.str x)
 | byt (b:Array UInt8):Dw K H (.byt b) (.bytes b.toList)
 | lst {a:Addr} {xs:List V} {ds:List WData}:SqL K H a xs->iN K H xs ds->Dw K H (.ref a) (.list ds)
 | tup {a:Addr} {xs:List V} {ds:List WData}:SqT K H a xs->iN K H xs ds->Dw K H (.ref a) (.tuple ds)
inductive iN (K:PySem.W.Frag)(H:Hp):List V->List WData->Prop
 | nil:iN K H [] []
 | cons {v:V} {vs:List V} {d:WData} {ds:List WData}:Dw K H v d->iN K H vs ds->iN K H (v::vs) (d::ds)
end
theorem yh {K:PySem.W.Frag}{H:Hp}:∀ ns:List Int,iN K H (ns.map V.int) (ns.map WData.int)
 | []=>.nil
 | n::r=>.cons (.int n) (yh r)
theorem yb {K:PySem.W.Frag}{H:Hp}:∀ (ns:List Int) (xs:List V),iN K H xs (ns.map WData.int)->xs=ns.map V.int
 | [],xs,h=>by
  cases h
  rfl
 | n::r,xs,h=>by
  cases h with
  | cons h1 h2=>
   cases h1
   rw [yb r _ h2]<;>rfl
section
variable {P:Program}{w:World}{K:PySem.W.Frag}{H:Hp}{h:Heap}{R:PySem.W.WRecords}{cl:Str->Option Addr}
theorem adM {a:Addr}{xs:List V}(hok:HOk P w H h)(KX:K.In h)(q:SqL K H a xs):∃ (its:List Value) (o:Obj) (n:Nat),Vals xs its/\h.get? a=some o/\o.cls=.type "list"/\o.data=.seq its.toArray n:=by
 rcases q with q | ⟨o,its,n,e,hc,_,hd,_,hv⟩
 ·obtain ⟨_,its,n,hv,e⟩:=(show dH P w H h a (.lst xs) from q.ok hok)
  exact ⟨its,_,n,hv,e,rfl,rfl⟩
 ·exact ⟨its.toList,o,n,hv,KX _ _ e,hc,by simp [hd]⟩
theorem aez {a:Addr}{xs:List V}(hok:HOk P w H h)(KX:K.In h)(q:SqT K H a xs):∃ (its:List Value) (o:Obj) (n:Nat),Vals xs its/\h.get? a=some o/\o.cls=.type "tuple"/\o.data=.seq its.toArray n:=by
 rcases q with q | ⟨o,its,n,e,hc,hd,_,hv⟩
 ·obtain ⟨_,its,hv,o,e,hc,n,hd⟩:=(show dH P w H h a (.tup xs) from q.ok hok)
  exact ⟨its,o,n,hv,e,hc,hd⟩
 ·exact ⟨its.toList,o,n,hv,KX _ _ e,hc,by simp [hd]⟩
mutual
theorem Dw.reads (hok:HOk P w H h)(KX:K.In h):∀ (d:WData) (v:V) (u:Value),Dw K H v d->bA v u->∃ as,ReadsW R cl h u d as
 | .none,_,_,x,r=>by
  cases x
  cases r
  exact ⟨_,ReadsW.none⟩
 | .bool b,_,_,x,r=>by
  cases x
  cases r
  exact ⟨_,ReadsW.bool b⟩
 | .int i,_,_,x,r=>by
  cases x
  obtain ⟨t,rfl⟩:=r
  exact ⟨_,ReadsW.int i t⟩
 | .str s,_,_,x,r=>by
  cases x
  obtain ⟨t,rfl⟩:=r
  exact ⟨_,ReadsW.str s t⟩
 | .bytes b,_,_,x,r=>by
  cases x
  obtain ⟨t,rfl⟩:=r
  exact ⟨_,ReadsW.bytes _ t⟩
 | .list ds,_,_,x,r=>by
  cases x with
  | lst hs ha=>
   cases r
   obtain ⟨its,o,n,rv,ho,hc,hd⟩:=adM hok KX hs
   obtain ⟨as,hr⟩:=Dw.readsAll hok KX ds _ its ha rv
   exact ⟨_,ReadsW.list ho hc hd hr⟩
 | .tuple ds,_,_,x,r=>by
  cases x with
  | tup hs ha=>
   cases r
   obtain ⟨its,o,n,rv,ho,hc,hd⟩:=aez hok KX hs
   obtain ⟨as,hr⟩:=Dw.readsAll hok KX ds _ its ha rv
   exact ⟨_,ReadsW.tuple ho hc hd hr⟩
 | .float _,_,_,x,_=>by cases x
 | .dict _,_,_,x,_=>by cases x
 | .bytearray _,_,_,x,_=>by cases x
 | .set _,_,_,x,_=>by cases x
 | .frozenset _,_,_,x,_=>by cases x
 | .obj _ _,_,_,x,_=>by cases x
theorem Dw.readsAll (hok:HOk P w H h)(KX:K.In h):∀ (ds:List WData) (vs:List V) (us:List Value),iN K H vs ds->Vals vs us->∃ as,ReadsAllW R cl h us ds as
 | [],_,_,x,r=>by
  cases x
  cases r
  exact ⟨_,ReadsAllW.nil⟩
 | d::ds,_,_,x,r=>by
  cases x with
  | cons h1 h2=>
   cases r with
   | cons r1 r2=>
    obtain ⟨as,q1⟩:=Dw.reads hok KX d _ _ h1 r1
    obtain ⟨bs,q2⟩:=Dw.readsAll hok KX ds _ _ h2 r2
    exact ⟨_,ReadsAllW.cons q1 q2⟩
end
end
mutual
def plW:WData->Bool
 | .none=>true
 | .bool _=>true
 | .int _=>true
 | .str _=>true
 | .bytes _=>true
 | .list xs=>ny xs
 | .tuple xs=>ny xs
 | _=>false
def ny:List WData->Bool
 | []=>true
 | x::r=>plW x&&ny r
end
theorem ww {α:Type}{f:α->WData}(h:∀ a,plW (f a)=true):∀ l:List α,ny (l.map f)=true
 | []=>rfl
 | x::r=>by
  show (plW (f x)&&ny (r.map f))=true
  rw [h x,ww h r]<;>rfl
theorem jm:∀ (c:Codec) (a:c.denote),plW (c.enc a)=true
 | .unit,_=>rfl
 | .bool,_=>rfl
 | .int _ _,_=>rfl
 | .nat _ _,_=>rfl
 | .u8,_=>rfl
 | .bytes _ _,_=>rfl
 | .text _ _ _ _,_=>rfl
 | .list _ _ c,a=>ww (fun x=>jm c x) a
 | .pair c d,a=>by
  show (plW (c.enc a.1)&&(plW (d.enc a.2)&&true))=true
  rw [jm c a.1,jm d a.2]<;>rfl
 | .triple c d e,a=>by
  show (plW (c.enc a.1)&&(plW (d.enc a.2.1)&&(plW (e.enc a.2.2)&&true)))=true
  rw [jm c a.1,jm d a.2.1,jm e a.2.2]<;>rfl
 | .option c,none=>rfl
 | .option c,some x=>jm c x
theorem sF:∀ (cs:List Codec) (a:Codec.denoteAll cs),ny (Codec.encAll cs a)=true
 | [],_=>rfl
 | c::cs,a=>by
  show (plW (c.enc a.1)&&ny (Codec.encAll cs a.2))=true
  rw [jm c a.1,sF cs a.2]<;>rfl
theorem kc:∀ {xs:List WData} {d:WData},d∈xs->d.weight<=WData.weightAll xs
 | [],d,h=>absurd h (by simp)
 | x::r,d,h=>by
  show d.weight<=x.weight+1+WData.weightAll r
  rcases List.mem_cons.mp h with e | m
  ·rw [e]
   omega
  ·have z:=kc m
   omega
def toV:Value->V
 | .none=>.non
 | .bool b=>.bl b
 | .int i _=>.int i
 | .str x _=>.str x
 | .bytes b _=>.byt b
 | .ref a=>.ref a
 | _=>.non
def OkU (A:List Addr):Value->Prop
 | .none=>True
 | .bool _=>True
 | .int _ _=>True
 | .str _ _=>True
 | .bytes _ _=>True
 | .ref a=>a∈A
 | _=>False
theorem OkU.mono {A B:List Addr}(h:∀ a∈A,a∈B):∀ {u:Value},OkU A u->OkU B u:=fun {u} x=>by
 cases u with
 | ref a=>exact h a x
 | none=>trivial
 | bool b=>trivial
 | int i t=>trivial
 | str s t=>trivial
 | bytes b t=>trivial
 | _=>exact False.elim x
theorem aa7 {A:List Addr}{u:Value}(x:OkU A u):bA (toV u) u:=by
 cases u with
 | ref a=>rfl
 | none=>rfl
 | bool b=>rfl
 | int i t=>exact ⟨t,rfl⟩
 | str s t=>exact ⟨t,rfl⟩
 | bytes b t=>exact ⟨t,rfl⟩
 | _=>exact False.elim x
theorem ii {A:List Addr}:∀ {vs:List Value},(∀ u∈vs,OkU A u)->Vals (vs.map toV) vs
 | [],_=>.nil
 | u::r,h=>.cons (aa7 (h u (List.mem_cons_self ..))) (ii fun x hx=>h x (List.mem_cons_of_mem _ hx))
def iT (h:Heap)(A:List Addr)(a:Addr):Prop:=∃ vs:List Value,vs.length<=sizeLine/\(∀ u∈vs,OkU A u)/\
 (h.get? a=some {cls:=.type "list",data:=.seq vs.toArray}\/h.get? a=some {cls:=.type "tuple",data:=.seq vs.toArray})
theorem iT.mono {h:Heap}{A B:List Addr}{a:Addr}(k:∀ a∈A,a∈B)(x:iT h A a):iT h B a:=by
 obtain ⟨vs,h1,h2,h3⟩:=x
 exact ⟨vs,h1,fun u hu=>(h2 u hu).mono k,h3⟩
theorem gO {P:Params}{h:Heap}:∀ {vs:List Value} {ds:List WData},WellAll P h vs ds->vs.length=ds.length
 | _,_,.nil=>rfl
 | _,_,.cons _ b=>by
  show _+1=_+1
  rw [gO b]
theorem rZ {P:Params}{h:Heap}{v:Value}{ds:List WData}(x:Well P h v (.list ds)):∃ (a:Addr) (vs:List Value),v=.ref a/\h.get? a=some {cls:=.type "list",data:=.seq vs.toArray}/\WellAll P h vs ds:=by
 cases x with
 | list ho hall=>exact ⟨_,_,rfl,ho,hall⟩
theorem p8 {P:Params}{h:Heap}{v:Value}{ds:List WData}(x:Well P h v (.tuple ds)):∃ (a:Addr) (vs:List Value),v=.ref a/\h.get? a=some {cls:=.type "tuple",data:=.seq vs.toArray}/\WellAll P h vs ds:=by
 cases x with
 | tuple ho hall=>exact ⟨_,_,rfl,ho,hall⟩
theorem sj {P:Params}{h:Heap}{us:List Value}{d:WData}{ds:List WData}(x:WellAll P h us (d::ds)):∃ (v:Value) (vs:List Value),us=v::vs/\Well P h v d/\WellAll P h vs ds:=by
 cases x with
 | cons a b=>exact ⟨_,_,rfl,a,b⟩
theorem yn {n:Nat}(h:n<=1048576):n<=sizeLine:=Nat.le_trans h (by decide)
section
variable {P:Params}{h:Heap}
mutual
theorem aaH:∀ (d:WData) (v:Value),Well P h v d->plW d=true->d.weight<=1048576->∃ A:List Addr,OkU A v/\∀ a∈A,iT h A a
 | .none,_,x,_,_=>by
  cases x
  exact ⟨[],trivial,fun a m=>absurd m (by simp)⟩
 | .bool b,_,x,_,_=>by
  cases x
  exact ⟨[],trivial,fun a m=>absurd m (by simp)⟩
 | .int i,_,x,_,_=>by
  cases x
  exact ⟨[],trivial,fun a m=>absurd m (by simp)⟩
 | .str s,_,x,_,_=>by
  cases x
  exact ⟨[],trivial,fun a m=>absurd m (by simp)⟩
 | .bytes b,_,x,_,_=>by
  cases x
  exact ⟨[],trivial,fun a m=>absurd m (by simp)⟩
 | .list ds,_,x,p,z=>by
  obtain ⟨a,vs,rfl,ho,hall⟩:=rZ x
  have z2:WData.weightAll ds<=1048576:=z
  obtain ⟨A,h1,h2⟩:=lF ds _ hall p fun d hd=>Nat.le_trans (kc hd) z2
  have k:∀ b∈A,b∈a::A:=fun b hb=>List.mem_cons_of_mem _ hb
  refine ⟨a::A,List.mem_cons_self ..,fun b hb=>?_⟩
  rcases List.mem_cons.mp hb with e | m
  ·rw [e]
   exact ⟨vs,yn (by rw [gO hall];exact Nat.le_trans (PySem.W.length_le_weightAllW ds) z2),fun u hu=>(h1 u hu).mono k,.inl ho⟩
  ·exact (h2 b m).mono k
 | .tuple ds,_,x,p,z=>by
  obtain ⟨a,vs,rfl,ho,hall⟩:=p8 x
  have z2:WData.weightAll ds<=1048576:=z
  obtain ⟨A,h1,h2⟩:=lF ds _ hall p fun d hd=>Nat.le_trans (kc hd) z2
  have k:∀ b∈A,b∈a::A:=fun b hb=>List.mem_cons_of_mem _ hb
  refine ⟨a::A,List.mem_cons_self ..,fun b hb=>?_⟩
  rcases List.mem_cons.mp hb with e | m
  ·rw [e]
   exact ⟨vs,yn (by rw [gO hall];exact Nat.le_trans (PySem.W.length_le_weightAllW ds) z2),fun u hu=>(h1 u hu).mono k,.inr ho⟩
  ·exact (h2 b m).mono k
 | .float _,_,_,p,_=>Bool.noConfusion (show false=true from p)
 | .dict _,_,_,p,_=>Bool.noConfusion (show false=true from p)
 | .bytearray _,_,_,p,_=>Bool.noConfusion (show false=true from p)
 | .set _,_,_,p,_=>Bool.noConfusion (show false=true from p)
 | .frozenset _,_,_,p,_=>Bool.noConfusion (show false=true from p)
 | .obj _ _,_,_,p,_=>Bool.noConfusion (show false=true from p)
theorem lF:∀ (ds:List WData) (vs:List Value),WellAll P h vs ds->ny ds=true->(∀ d∈ds,d.weight<=1048576)->∃ A:List Addr,(∀ u∈vs,OkU A u)/\∀ a∈A,iT h A a
 | [],_,x,_,_=>by
  cases x
  exact ⟨[],fun u m=>absurd m (by simp),fun a m=>absurd m (by simp)⟩
 | d::ds,_,x,p,z=>by
  obtain ⟨v,vs,rfl,x1,x2⟩:=sj x
  have q:plW d=true/\ny ds=true:=Bool.and_eq_true_iff.mp p
  obtain ⟨A,a1,a2⟩:=aaH d v x1 q.1 (z d (List.mem_cons_self ..))
  obtain ⟨B,b1,b2⟩:=lF ds vs x2 q.2 fun e he=>z e (List.mem_cons_of_mem _ he)
  have kA:∀ b∈A,b∈A++B:=fun b hb=>List.mem_append.mpr (.inl hb)
  have kB:∀ b∈B,b∈A++B:=fun b hb=>List.mem_append.mpr (.inr hb)
  refine ⟨A++B,fun u hu=>?_,fun b hb=>?_⟩
  ·rcases List.mem_cons.mp hu with e | m
   ·rw [e]
    exact a1.mono kA
   ·exact (b1 u m).mono kB
  ·rcases List.mem_append.mp hb with m | m
   ·exact (a2 b m).mono kA
   ·exact (b2 b m).mono kB
end
end
def acb (o:Obj):Option HO:=match o.data with
 | .seq vs _=>if (o.cls == Value.type "list")=true then some (.frz o (.lst (vs.toList.map toV))) else some (.frz o (.tup (vs.toList.map toV)))
 | _=>none
def iI (K:PySem.W.Frag)(h:Heap)(A:List Addr):Hp:=fun b=>if b∈A then (if (K.lookup b).isNone=true then (h.get? b).bind acb else none) else none
def vx (H:Hp):Prop:=∀ b,H b=none\/∃ o u,H b=some (.frz o u)
theorem vv (vs:List Value):acb {cls:=.type "list",data:=.seq vs.toArray}=some (.frz {cls:=.type "list",data:=.seq vs.toArray} (.lst (vs.map toV))):=by
 show (if (Value.type "list" == Value.type "list")=true then some (HO.frz {cls:=.type "list",data:=.seq vs.toArray} (.lst (vs.toArray.toList.map toV))) else some (HO.frz {cls:=.type "list",data:=.seq vs.toArray} (.tup (vs.toArray.toList.map toV))))=_
 rw [if_pos (beq_self_eq_true _)]
theorem u6 (vs:List Value):acb {cls:=.type "tuple",data:=.seq vs.toArray}=some (.frz {cls:=.type "tuple",data:=.seq vs.toArray} (.tup (vs.map toV))):=by
 show (if (Value.type "tuple" == Value.type "list")=true then some (HO.frz {cls:=.type "tuple",data:=.seq vs.toArray} (.lst (vs.toArray.toList.map toV))) else some (HO.frz {cls:=.type "tuple",data:=.seq vs.toArray} (.tup (vs.toArray.toList.map toV))))=_
 rw [if_neg (by decide)]
section
variable {P:Program}{w:World}{K:PySem.W.Frag}{h:Heap}{A:List Addr}
theorem ox {b:Addr}{o:Obj}(hb:b∈A)(hk:K.lookup b=none)(e:h.get? b=some o):iI K h A b=acb o:=by
 unfold iI
 rw [if_pos hb,hk,if_pos (show (none:Option Obj).isNone=true from rfl),e]<;>rfl
theorem ac6 {b:Addr}{u:HO}(q:iI K h A b=some u):b∈A/\K.lookup b=none:=by
 unfold iI at q
 by_cases hb:b∈A
 ·rw [if_pos hb] at q
  cases hk:K.lookup b with
  | none=>exact ⟨hb,rfl⟩
  | some o=>
   rw [hk,if_neg (by simp)] at q
   cases q
 ·rw [if_neg hb] at q
  cases q
theorem oA (ar:∀ a∈A,iT h A a){b:Addr}{u:HO}(q:iI K h A b=some u):K.lookup b=none/\∃ vs:List Value,vs.length<=sizeLine/\(∀ u∈vs,OkU A u)/\
  ((h.get? b=some {cls:=.type "list",data:=.seq vs.toArray}/\u=.frz {cls:=.type "list",data:=.seq vs.toArray} (.lst (vs.map toV))) ∨
    (h.get? b=some {cls:=.type "tuple",data:=.seq vs.toArray}/\u=.frz {cls:=.type "tuple",data:=.seq vs.toArray} (.tup (vs.map toV)))):=by
 obtain ⟨hb,hk⟩:=ac6 q
 obtain ⟨vs,h1,h2,h3⟩:=ar b hb
 refine ⟨hk,vs,h1,h2,?_⟩
 rcases h3 with e | e
 ·rw [ox hb hk e,vv] at q
  exact .inl ⟨e,(Option.some.inj q).symm⟩
 ·rw [ox hb hk e,u6] at q
  exact .inr ⟨e,(Option.some.inj q).symm⟩
theorem yZ (ar:∀ a∈A,iT h A a):vx (iI K h A):=fun b=>by
 cases q:iI K h A b with
 | none=>exact .inl rfl
 | some u=>
  obtain ⟨_,vs,_,_,⟨_,e⟩ | ⟨_,e⟩⟩:=oA ar q
  ·exact .inr ⟨_,_,by rw [e]⟩
  ·exact .inr ⟨_,_,by rw [e]⟩
theorem ac5 (ar:∀ a∈A,iT h A a):HOk P w (iI K h A) h:=fun b u q=>by
 obtain ⟨_,vs,h1,h2,⟨e,rfl⟩ | ⟨e,rfl⟩⟩:=oA ar q
 ·exact ⟨e,by rw [List.length_map];exact h1,vs,_,ii h2,e⟩
 ·exact ⟨e,by rw [List.length_map];exact h1,vs,ii h2,_,e,rfl,_,rfl⟩
theorem oM {c c':Value}{vs us:List Value}(e:(some {cls:=c,data:=.seq vs.toArray}:Option Obj)=some {cls:=c',data:=.seq us.toArray}):c=c'/\vs=us:=by
 have e1:=Option.some.inj e
 have e2:c=c':=congrArg Obj.cls e1
 have e3:Data.seq vs.toArray=Data.seq us.toArray:=congrArg Obj.data e1
 injection e3 with e4
 refine ⟨e2,?_⟩
 have e5:=congrArg Array.toList e4
 simpa using e5
theorem afK (KX:K.In h)(ar:∀ a∈A,iT h A a){a:Addr}{vs:List Value}(ha:a∈A)(e:h.get? a=some {cls:=.type "list",data:=.seq vs.toArray}):(∀ u∈vs,OkU A u)/\SqL K (iI K h A) a (vs.map toV):=by
 obtain ⟨us,h1,h2,h3⟩:=ar a ha
 have hu:us=vs:=by
  rcases h3 with q | q
  ·rw [e] at q
   exact (oM q).2.symm
  ·rw [e] at q
   exact absurd (Value.type.inj (oM q).1) (by decide)
 subst hu
 refine ⟨h2,?_⟩
 cases hk:K.lookup a with
 | none=>exact .inl (.inr ⟨_,by rw [ox ha hk e,vv]⟩)
 | some o=>
  have e2:=KX a o hk
  rw [e] at e2
  obtain rfl:=Option.some.inj e2
  exact .inr ⟨_,us.toArray,_,hk,rfl,rfl,rfl,by rw [List.size_toArray];exact h1,by simpa using ii h2⟩
theorem afN (KX:K.In h)(ar:∀ a∈A,iT h A a){a:Addr}{vs:List Value}(ha:a∈A)(e:h.get? a=some {cls:=.type "tuple",data:=.seq vs.toArray}):(∀ u∈vs,OkU A u)/\SqT K (iI K h A) a (vs.map toV):=by
 obtain ⟨us,h1,h2,h3⟩:=ar a ha
 have hu:us=vs:=by
  rcases h3 with q | q
  ·rw [e] at q
   exact absurd (Value.type.inj (oM q).1) (by decide)
  ·rw [e] at q
   exact (oM q).2.symm
 subst hu
 refine ⟨h2,?_⟩
 cases hk:K.lookup a with
 | none=>exact .inl (.inr ⟨_,by rw [ox ha hk e,u6]⟩)
 | some o=>
  have e2:=KX a o hk
  rw [e] at e2
  obtain rfl:=Option.some.inj e2
  exact .inr ⟨_,us.toArray,_,hk,rfl,rfl,by rw [List.size_toArray];exact h1,by simpa using ii h2⟩
mutual
theorem ad8 {Pm:Params}(KX:K.In h)(ar:∀ a∈A,iT h A a):∀ (d:WData) (v:Value),Well Pm h v d->plW d=true->OkU A v->Dw K (iI K h A) (toV v) d
 | .none,_,x,_,_=>by
  cases x
  exact .non
 | .bool b,_,x,_,_=>by
  cases x
  exact .bl b
 | .int i,_,x,_,_=>by
  cases x
  exact .int i
 | .str s,_,x,_,_=>by
  cases x
  exact .str s
 | .bytes b,_,x,_,_=>by
  cases x
  have z:=Dw.byt (K:=K) (H:=iI K h A) b.toArray
  exact z
 | .list ds,_,x,p,hu=>by
  obtain ⟨a,vs,rfl,ho,hall⟩:=rZ x
  obtain ⟨h2,hs⟩:=afK KX ar hu ho
  exact .lst hs (sX KX ar ds _ hall p h2)
 | .tuple ds,_,x,p,hu=>by
  obtain ⟨a,vs,rfl,ho,hall⟩:=p8 x
  obtain ⟨h2,hs⟩:=afN KX ar hu ho
  exact .tup hs (sX KX ar ds _ hall p h2)
 | .float _,_,_,p,_=>Bool.noConfusion (show false=true from p)
 | .dict _,_,_,p,_=>Bool.noConfusion (show false=true from p)
 | .bytearray _,_,_,p,_=>Bool.noConfusion (show false=true from p)
 | .set _,_,_,p,_=>Bool.noConfusion (show false=true from p)
 | .frozenset _,_,_,p,_=>Bool.noConfusion (show false=true from p)
 | .obj _ _,_,_,p,_=>Bool.noConfusion (show false=true from p)
theorem sX {Pm:Params}(KX:K.In h)(ar:∀ a∈A,iT h A a):∀ (ds:List WData) (vs:List Value),WellAll Pm h vs ds->ny ds=true->(∀ u∈vs,OkU A u)->iN K (iI K h A) (vs.map toV) ds
 | [],_,x,_,_=>by
  cases x
  exact .nil
 | d::ds,_,x,p,hu=>by
  obtain ⟨v,vs,rfl,x1,x2⟩:=sj x
  have q:plW d=true/\ny ds=true:=Bool.and_eq_true_iff.mp p
  exact .cons (ad8 KX ar d v x1 q.1 (hu _ (List.mem_cons_self ..))) (sX KX ar ds vs x2 q.2 fun u m=>hu u (List.mem_cons_of_mem _ m))
end
end
theorem zj {P:Program}{w:World}{K:PySem.W.Frag}{mg mb:Str->Option Value}{CX:CXT}{k:Nat}{fa:Addr}{fd:FuncData}{ps:List Str}{sp:Sp}{s₁:Shared}{vals:List Value}{ds:List WData}{R:PySem.W.WRecords}{cl:Str->Option Addr}{d0:WData}
  (KX:K.In s₁.heap)(hns:s₁.heap.Ns mainGlobals mg)(hb:s₁.heap.Ns builtinsNs mb)(hbb:∀ x:Str,x≠"__name__"->mb x=bootBuiltins x)(hlim:s₁.heap.NoLimit)(hg:s₁.gens=#[])
  (hwl:WellAll w.params s₁.heap vals ds)(hpl:ny ds=true)(hwt:∀ d∈ds,d.weight<=1048576)(hr:Room k callerA)
  (F:∀ base:Heap,K.In base->base.Ns mainGlobals mg->eI P w K mg base CX k fa fd ps sp)(hbind:∀ (s:Shared) (us:List Value),us.length=ps.length->BindsTo s fd ⟨us,[]⟩ (ps.zip us))(hlen:ds.length=ps.length)
  (hsp:∀ (H:Hp) (xs:List V),vx H->iN K H xs ds->sp xs H (fun v H'=>Dw K H' v d0) fun _ _ _=>False)
  (hCX:∀ H e s',CX [] H s₁ (fun _ _ _=>False) e s'->False):
  codeAny (model P w) callerA (.call (.ref fa) ⟨vals,[]⟩) (fun r s'=>∃ u as,r=.ok (.ret u)/\ReadsW R cl s'.heap u d0 as/\OldK s₁.heap s'.heap/\s'.os=s₁.os/\AllBare s'.gens) s₁:=by
 obtain ⟨A,ho,ar⟩:=lF ds vals hwl hpl hwt
 have hO:vx (iI K s₁.heap A):=yZ ar
 have hok:HOk P w (iI K s₁.heap A) s₁.heap:=ac5 ar
 have hS:=sX KX ar ds vals hwl hpl ho
 have hV:=ii ho
 have hK:∀ b u,iI K s₁.heap A b=some u->K.lookup b=none:=fun b u q=>(oA ar q).1
 have noA:∀ {b:Addr} {o:Obj} {es:Array DictEntry} {ep:Nat},s₁.heap.get? b=some o->o.data=.dict es ep->iI K s₁.heap A b=none:=fun {b o es ep} e d=>by
  cases q:iI K s₁.heap A b with
  | none=>rfl
  | some u=>
   obtain ⟨_,vs,_,_,⟨e2,_⟩ | ⟨e2,_⟩⟩:=oA ar q
   ·rw [e2] at e
    cases e
    have d':Data.seq vs.toArray _=Data.dict es ep:=d
    cases d'
   ·rw [e2] at e
    cases e
    have d':Data.seq vs.toArray _=Data.dict es ep:=d
    cases d'
 generalize iI K s₁.heap A=H at hO hok hS hK noA
 have base_of:∀ {b:Addr} {o:Obj},s₁.heap.get? b=some o->H b=none->(uP s₁.heap H).get? b=some o:=fun e n=>abl e n
 have nsK:∀ {b:Addr} {m:Str->Option Value},s₁.heap.Ns b m->(uP s₁.heap H).Ns b m:=fun {b m} ⟨o,es,ep,e,d,r⟩=>⟨o,es,ep,base_of e (noA e d),d,r⟩
 have nK:∀ b o,K.lookup b=some o->H b=none:=fun b o e=>by
  cases q:H b with
  | none=>rfl
  | some u=>
   rw [hK b u q] at e
   cases e
 have hKb:K.In (uP s₁.heap H):=fun b o e=>base_of (KX b o e) (nK b o e)
 have hM:Mod K mg (uP s₁.heap H):=⟨hKb,nsK hns,⟨mb,nsK hb,hbb⟩,let ⟨mc,h1,h2⟩:=hlim;⟨mc,nsK h1,h2⟩⟩
 have e0:Env0 P w K mg (uP s₁.heap H) callerA [] s₁ H:=⟨rfl,hM,fun b o e=>acX e,Nat.le_of_eq (y9 _ _),trivial,fun b hb=>absurd (show b∈([]:List Addr) from hb) (by simp),hok,.of_eq hg⟩
 have hl:vals.length=ps.length:=by rw [gO hwl];exact hlen
 refine codeAny_mono ((F _ hKb (nsK hns)).run callerA [] s₁ H ⟨vals,[]⟩ vals (vals.map toV) _ _ hr e0 (hbind s₁ vals hl) hV (hsp H _ hO hS)) fun r s' x=>?_
 cases r with
 | error e=>exact (hCX H e s' x).elim
 | ok fl=>
  cases fl with
  | next=>exact False.elim x
  | brk=>exact False.elim x
  | cont=>exact False.elim x
  | ret u=>
   obtain ⟨v,H',os,bare,un,hok',r',q⟩:=x
   have kept:∀ b o,s₁.heap.get? b=some o->s'.heap.get? b=some o:=fun b o e=>by
    cases q2:H b with
    | none=>exact un.keep b o e q2 (by intro z;exact absurd (show b∈([]:List Addr) from z) (by simp)) (by simp)
    | some u2=>
     rcases hO b with z | ⟨ob,u3,z⟩
     ·rw [q2] at z
      cases z
     ·have z2:=un.frzs b ob _ z
      obtain ⟨e1,_⟩:=hok b _ z
      obtain ⟨e2,_⟩:=hok' b _ z2
      rw [e] at e1
      cases e1
      exact e2
   have KX':K.In s'.heap:=fun b o e=>kept b o (KX b o e)
   obtain ⟨as,hrd⟩:=Dw.reads (R:=R) (cl:=cl) hok' KX' d0 v u q r'
   exact ⟨u,as,rfl,hrd,OldK.of_keep kept,os,bare⟩
theorem pP {ds:List WData}(h:WData.layableAll ds=true):∀ d∈ds,d.weight<=1048576:=fun d hd=>
 (PySem.W.layableW_iff.mp (List.all_eq_true.mp h d hd)).2.2
theorem qc:∀ (cs:List Codec) (a:Codec.denoteAll cs),(Codec.encAll cs a).length=cs.length
 | [],_=>rfl
 | c::cs,a=>by
  show (Codec.encAll cs a.2).length+1=cs.length+1
  rw [qc cs a.2]
theorem zL {r:OpenSpec}{k:Nat}{q:Program}{loose:List Str}{XP:(Str->Option Value)->Heap->Prop}{YP:World->Heap->Prop}{d:DefRec}{K:Params->PySem.W.Frag}{CX:World->CXT}{ps:List Str}{sp:World->Sp}
  (hwell:r.wellSaid=true)(hdf:d.params.defaults=[])(hlen:r.args.length=ps.length)(hr:Room k callerA)
  (hY:∀ (w:World) (h:Heap),YP w h->(K w.params).In h)
  (F:∀ (w:World) (mg:Str->Option Value) (fa:Addr) (h:Heap),YP w h->(K w.params).In h->h.Ns mainGlobals mg->mg d.name=some (.ref fa)->
   ∃ fd:FuncData,(∀ (s:Shared) (us:List Value),us.length=ps.length->BindsTo s fd ⟨us,[]⟩ (ps.zip us))/\
    ∀ base:Heap,(K w.params).In base->base.Ns mainGlobals mg->eI r.prog w (K w.params) mg base (CX w) k fa fd ps (sp w))
  (hsp:∀ (w:World) (H:Hp) (xs:List V) (a:Codec.denoteAll r.args),vx H->Codec.withinAll r.args a=true->Codec.app r.args r.asked a=true->iN (K w.params) H xs (Codec.encAll r.args a)->
   sp w xs H (fun v H'=>Dw (K w.params) H' v (r.ret.enc (Codec.app r.args r.f a))) fun _ _ _=>False)
  (hCX:∀ (w:World) (H:Hp) (s:Shared) (e:Value) (s':Shared),CX w [] H s (fun _ _ _=>False) e s'->False):
  PySem.W.WalkOS q loose XP YP r d [] (fun f vs=>PySem.call f vs):=by
 intro w s_0 s₁ mg mb G Y fa o pm cd doc dV kV ho hd hcd hD hmg hg args vals as hpre hlay hrd hwl hlo
 obtain ⟨a,e1,e2⟩:=PySem.W.os_pre_some hpre
 obtain ⟨e3,hwi⟩:=Codec.encAll_of_decAll r.args args a e1
 subst e3
 have KX:=hY w _ Y
 obtain ⟨fd,hb,hF⟩:=F w mg fa _ Y KX G.T.g hmg
 refine PySem.W.enter_call (codeAny_mono (zj (R:=[]) (cl:=classAt s_0.heap) (d0:=r.ret.enc (Codec.app r.args r.f a)) KX G.T.g G.T.b G.T.builtins G.T.nolimit hg hwl (sF _ _) (pP hlay) hr hF hb (by rw [qc];exact hlen)
  (fun H xs hO hS=>hsp w H xs a hO hwi e2 hS) fun H e s'=>hCX w H s₁ e s') fun r' s' hq=>?_)
 obtain ⟨u,as',rfl,h1,h2,h3,h4⟩:=hq
 exact ⟨.inl ⟨u,_,as',rfl,fun _=>rfl,h1,(OpenSpec.post_iff hwell hwi _ _).mpr rfl,fun z=>Bool.noConfusion (show false=true from z)⟩,h2,h3,h4⟩
theorem wP {r:OpenSpec}{k:Nat}{q:Program}{loose:List Str}{XP:(Str->Option Value)->Heap->Prop}{YP:World->Heap->Prop}{d:DefRec}{K:Params->PySem.W.Frag}{CX:CXT}{ps:List Str}{sp:PySem.W.Frag->Sp}
  (hwell:r.wellSaid=true)(hdf:d.params.defaults=[])(hlen:r.args.length=ps.length)(hr:Room k callerA)
  (hY:∀ (w:World) (h:Heap),YP w h->(K w.params).In h)
  (F:∀ (w:World) (mg:Str->Option Value) (fa:Addr) (h:Heap),YP w h->(K w.params).In h->h.Ns mainGlobals mg->mg d.name=some (.ref fa)->
   ∃ fd:FuncData,(∀ (s:Shared) (us:List Value),us.length=ps.length->BindsTo s fd ⟨us,[]⟩ (ps.zip us))/\
    ∀ base:Heap,(K w.params).In base->base.Ns mainGlobals mg->eI r.prog w (K w.params) mg base CX k fa fd ps (sp (K w.params)))
  (hsp:∀ (K:PySem.W.Frag) (H:Hp) (xs:List V) (a:Codec.denoteAll r.args),vx H->Codec.withinAll r.args a=true->Codec.app r.args r.asked a=true->iN K H xs (Codec.encAll r.args a)->
   sp K xs H (fun v H'=>Dw K H' v (r.ret.enc (Codec.app r.args r.f a))) fun _ _ _=>False)
  (hCX:∀ (H:Hp) (s:Shared) (e:Value) (s':Shared),CX [] H s (fun _ _ _=>False) e s'->False):
  PySem.W.WalkOS q loose XP YP r d [] (fun f vs=>PySem.call f vs):=
 zL (K:=K) (CX:=fun _=>CX) (sp:=fun w=>sp (K w.params)) hwell hdf hlen hr hY F (fun w H xs a h1 h2 h3 h4=>hsp (K w.params) H xs a h1 h2 h3 h4) fun _ H s e s'=>hCX H s e s'
end L2
end
set_option maxHeartbeats 2000000
namespace Bq
open PySem PySem.Spec PyProof.Rows L2
def SX (X:Cx)(D:Ends)(sts:List Stmt)(σ:L2.St)(H:Hp):Prop:=
 ∀ (pins:List (Addr×Obj)) (s:Shared),Inv X pins σ H s->wpAny (model X.prog X.w) X.A (execs sts X.env) (SP X pins D) X.xe s
def EX (X:Cx)(e:Expr)(σ:L2.St)(H:Hp)(Q:VK):Prop:=
 ∀ (pins:List (Addr×Obj)) (s:Shared),Inv X pins σ H s->wpAny (model X.prog X.w) X.A (eval e X.env) (EP X pins σ Q) X.xe s
def TX (X:Cx)(e:Expr)(σ:L2.St)(H:Hp)(Q:Bool->Hp->Prop):Prop:=
 ∀ (pins:List (Addr×Obj)) (s:Shared),Inv X pins σ H s->wpAny (model X.prog X.w) X.A (isTrue e X.env (eval e X.env)) (TP X pins σ Q) X.xe s
theorem bi (H:Hp):Same H H:=fun _ _ h=>h
theorem cD {H H':Hp}{p:Addr}{o:HO}(s:Same H H')(n:H' p=none):Same H (upd H' p o):=fun b u e=>by
 rw [am (aM (s b u e) n)]
 exact s b u e
theorem a8 {H:Hp}{p:Addr}{o:HO}(n:H p=none):Same H (upd H p o):=cD (bi H) n
theorem bK {H H':Hp}{p:Addr}{o:HO}(s:Same H H')(n:H p=none):Same H (upd H' p o):=fun b u e=>by
 rw [am (aM e n)]
 exact s b u e
theorem mP {K:PySem.W.Frag}{H H':Hp}{a:Addr}{xs:List V}(e:Same H H')(h:SqT K H a xs):SqT K H' a xs:=by
 rcases h with (h | ⟨o,h⟩) | h
 ·exact .inl (.inl (e _ _ h))
 ·exact .inl (.inr ⟨o,e _ _ h⟩)
 ·exact .inr h
section
variable {X:Cx}{D:Ends}{σ:L2.St}{H H0:Hp}{e:Expr}{st:Stmt}{sts rest:List Stmt}{Q:VK}{pos:Pos}
theorem ah:PE X e (EX X e):=fun pins s _ _ _ I h=>h pins s I
theorem m8:PT X e (TX X e):=fun pins s _ _ _ I h=>h pins s I
theorem gp:PSs X sts (fun D=>SX X D sts):=fun pins s _ _ _ I h=>h pins s I
theorem oS {t:TE}(h:PE X e t)(q:t σ H Q):EX X e σ H Q:=fun pins s I=>h pins s σ H Q I q
theorem ae6 {t:TT}{Q:Bool->Hp->Prop}(h:PT X e t)(q:t σ H Q):TX X e σ H Q:=fun pins s I=>h pins s σ H Q I q
theorem adF {t:TS}(h:PSs X sts t)(q:t D σ H):SX X D sts σ H:=fun pins s I=>h pins s σ H D I q
theorem bj (q:D.nx σ H):SX X D [] σ H:=adF acW q
theorem bh {t:TS}(h:PS X st t)(q:t {D with nx:=SX X D rest} σ H):SX X D (st::rest) σ H:=adF (aaP h gp) q
def PX (X:Cx)(σ:L2.St)(H0:Hp)(e:Expr)(P:VK):Prop:=∀ H,Same H0 H->∀ Q:VK,(∀ v H',Same H H'->P v H'->Q v H')->EX X e σ H Q
def PTX (X:Cx)(σ:L2.St)(H0:Hp)(e:Expr)(b:Bool):Prop:=∀ H,Same H0 H->∀ Q:Bool->Hp->Prop,(∀ H',Same H H'->Q b H')->TX X e σ H Q
variable {P:VK}
theorem bp {t:TE}(h:PE X e t)(ht:∀ H,Same H0 H->∀ Q:VK,(∀ v H',Same H H'->P v H'->Q v H')->t σ H Q):PX X σ H0 e P:=fun H s Q k=>oS h (ht H s Q k)
theorem j6 {t:TT}{b:Bool}(h:PT X e t)(ht:∀ H,Same H0 H->∀ Q:Bool->Hp->Prop,(∀ H',Same H H'->Q b H')->t σ H Q):PTX X σ H0 e b:=fun H s Q k=>ae6 h (ht H s Q k)
theorem PX.now (h:PX X σ H e P)(k:∀ v H',Same H H'->P v H'->Q v H'):EX X e σ H Q:=h H (bi H) Q k
theorem PX.imp {P':VK}(h:PX X σ H0 e P)(k:∀ v H,Same H0 H->P v H->P' v H):PX X σ H0 e P':=fun H s Q q=>h H s Q fun v H' s' p=>q v H' s' (k v H' (s.trans s') p)
theorem PTX.eq {b c:Bool}(h:PTX X σ H0 e b)(z:b=c):PTX X σ H0 e c:=z ▸ h
theorem aF {i:Nat}{x:Str}{pos':Pos}(hN:X.N.Nodup)(hi:X.N[i]?=some x)(hx:Loc X.env.scope x)(he:PX X σ H e P)(k:∀ v H',Same H H'->P v H'->SX X D rest (σ.set i (some v)) H')
  (hs:swapsWith e (some (.Name x pos')) pos.line X.env=pure false:=by rfl)(hf:X.fn x=true\/X.env.scope.names.lookup x=some .local:=by first | exact .inl rfl | exact .inr rfl | assumption):
  SX X D (.Assign [.Name x pos'] e pos::rest) σ H:=bh (pF hN hi hx ah hs hf) (he.now k)
theorem ai (he:PX X σ H e P)(k:∀ v H',Same H H'->P v H'->D.rt v H'):SX X D (.Return (some e) pos::rest) σ H:=bh (lS ah) (he.now k)
theorem aff {c:Expr}{a b:List Stmt}{d:Bool}(hc:PTX X σ H c d)(ha:d=true->∀ H',Same H H'->SX X {D with nx:=SX X D rest} a σ H')(hb:d=false->∀ H',Same H H'->SX X {D with nx:=SX X D rest} b σ H'):
  SX X D (.If c a b pos::rest) σ H:=by
 refine bh (adB m8 gp gp) (hc H (bi H) _ fun H' s=>?_)
 cases d with
 | true=>exact ha rfl H' s
 | false=>exact hb rfl H' s
theorem aH {c:Expr}{a:List Stmt}{d:Bool}(hc:PTX X σ H c d)(ha:d=true->∀ H',Same H H'->SX X {D with nx:=SX X D rest} a σ H')(hb:d=false->∀ H',Same H H'->SX X D rest σ H'):
  SX X D (.If c a [] pos::rest) σ H:=aff hc ha fun z H' s=>bj (hb z H' s)
end
abbrev Rp (α:Type):=PySem.W.Frag->α->VK
class Mono {α:Type} (R:Rp α):Prop where
 mono:∀ {K:PySem.W.Frag} {a:α} {v:V} {H H':Hp},Same H H'->R K a v H->R K a v H'
def cI:Rp Int:=fun _ i v _=>v=.int i
def cB:Rp Bool:=fun _ b v _=>v=.bl b
def All {α:Type}(R:Rp α)(K:PySem.W.Frag)(H:Hp)(xs:List V)(as:List α):Prop:=Paired (fun x a=>R K a x H) xs as
def cL {α:Type}(R:Rp α):Rp (List α):=fun K as v H=>∃ a xs,v=.ref a/\SqL K H a xs/\All R K H xs as
def cT {α:Type}(R:Rp α):Rp (List α):=fun K as v H=>∃ a xs,v=.ref a/\SqT K H a xs/\All R K H xs as
def cQ {α:Type}(R:Rp α):Rp (List α):=fun K as v H=>cL R K as v H\/cT R K as v H
def c2 {α β:Type}(R:Rp α)(S:Rp β):Rp (α×β):=fun K p v H=>∃ a x y,v=.ref a/\SqT K H a [x,y]/\R K p.1 x H/\S K p.2 y H
instance:Mono cI:=⟨fun _ h=>h⟩
instance:Mono cB:=⟨fun _ h=>h⟩
section
variable {α β:Type}{R:Rp α}{S:Rp β}{K:PySem.W.Frag}{H H':Hp}
theorem All.mono [m:Mono R](s:Same H H'){xs:List V}{as:List α}(h:All R K H xs as):All R K H' xs as:=Paired.mapP h fun _ _ q=>m.mono s q
theorem All.length {xs:List V}{as:List α}(h:All R K H xs as):xs.length=as.length:=Paired.length h
theorem All.get {xs:List V}{as:List α}(h:All R K H xs as){i:Nat}{a:α}(e:as[i]?=some a):∃ x,xs[i]?=some x/\R K a x H:=by
 unfold All at h
 induction h generalizing i with
 | nil=>simp at e
 | cons r t ih=>
  cases i with
  | zero=>
   have z:=Option.some.inj e
   subst z
   exact ⟨_,rfl,r⟩
  | succ i=>exact ih e
theorem All.getV {xs:List V}{as:List α}(h:All R K H xs as){i:Nat}{x:V}(e:xs[i]?=some x):∃ a,as[i]?=some a/\R K a x H:=by
 unfold All at h
 induction h generalizing i with
 | nil=>simp at e
 | cons r t ih=>
  cases i with
  | zero=>
   have z:=Option.some.inj e
   subst z
   exact ⟨_,rfl,r⟩
  | succ i=>exact ih e
theorem All.append {xs ys:List V}{as bs:List α}(h:All R K H xs as)(h':All R K H ys bs):All R K H (xs++ys) (as++bs):=by
 unfold All at h h' ⊢
 induction h with
 | nil=>exact h'
 | cons r t ih=>exact .cons r ih
theorem All.take {xs:List V}{as:List α}(h:All R K H xs as)(n:Nat):All R K H (xs.take n) (as.take n):=by
 unfold All at h ⊢
 induction h generalizing n with
 | nil=>simp;exact .nil
 | cons r t ih=>
  cases n with
  | zero=>exact .nil
  | succ n=>exact .cons r (ih n)
theorem All.drop {xs:List V}{as:List α}(h:All R K H xs as)(n:Nat):All R K H (xs.drop n) (as.drop n):=by
 unfold All at h ⊢
 induction h generalizing n with
 | nil=>simp;exact .nil
 | cons r t ih=>
  cases n with
  | zero=>exact .cons r t
  | succ n=>exact ih n
theorem All.ints:∀ {xs:List V} {ns:List Int},All cI K H xs ns->xs=ns.map V.int:=by
 intro xs ns h
 unfold All at h
 induction h with
 | nil=>rfl
 | cons r t ih=>
  have r:_=V.int _:=r
  rw [r,ih,List.map_cons]
theorem All.of_ints:∀ (ns:List Int),All cI K H (ns.map V.int) ns
 | []=>.nil
 | n::r=>.cons rfl (All.of_ints r)
theorem All.bools:∀ {xs:List V} {ns:List Bool},All cB K H xs ns->xs=ns.map V.bl:=by
 intro xs ns h
 unfold All at h
 induction h with
 | nil=>rfl
 | cons r t ih=>
  have r:_=V.bl _:=r
  rw [r,ih,List.map_cons]
end
instance {α:Type}{R:Rp α}[Mono R]:Mono (cL R):=⟨fun s ⟨a,xs,e,q,h⟩=>⟨a,xs,e,s.seq q,h.mono s⟩⟩
instance {α:Type}{R:Rp α}[Mono R]:Mono (cT R):=⟨fun s ⟨a,xs,e,q,h⟩=>⟨a,xs,e,mP s q,h.mono s⟩⟩
instance {α:Type}{R:Rp α}[Mono R]:Mono (cQ R):=⟨fun s h=>h.elim (fun q=>.inl (Mono.mono s q)) fun q=>.inr (Mono.mono s q)⟩
instance {α β:Type}{R:Rp α}{S:Rp β}[Mono R][Mono S]:Mono (c2 R S):=⟨fun s ⟨a,x,y,e,q,h1,h2⟩=>⟨a,x,y,e,mP s q,Mono.mono s h1,Mono.mono s h2⟩⟩
theorem cQ.ofL {α:Type}{R:Rp α}{K:PySem.W.Frag}{as:List α}{v:V}{H:Hp}(h:cL R K as v H):cQ R K as v H:=.inl h
theorem cQ.ofT {α:Type}{R:Rp α}{K:PySem.W.Frag}{as:List α}{v:V}{H:Hp}(h:cT R K as v H):cQ R K as v H:=.inr h
theorem cQ.at_ {α:Type}{R:Rp α}{K:PySem.W.Frag}{as:List α}{v:V}{H:Hp}(h:cQ R K as v H):∃ a xs,v=.ref a/\(SqL K H a xs\/SqT K H a xs)/\All R K H xs as:=by
 rcases h with ⟨a,xs,e,q,z⟩ | ⟨a,xs,e,q,z⟩
 ·exact ⟨a,xs,e,.inl q,z⟩
 ·exact ⟨a,xs,e,.inr q,z⟩
section
variable {X:Cx}{σ:L2.St}{H0:Hp}{a b c e:Expr}{pos:Pos}{α β:Type}{R:Rp α}{S:Rp β}{K:PySem.W.Frag}
theorem ab [Mono R](i:Nat){x:Str}{v:V}{d:α}(hv:σ[i]?=some (some v))(h:R K d v H0)(hN:X.N[i]?=some x:=by rfl)
  (hv':Vis X.env.scope x:=by first | exact Or.inl rfl | exact Or.inr (Or.inl rfl) | exact Or.inr (Or.inr rfl))(hd:(x == ("__debug__":Str))=false:=by decide)(hcd:(x == ("__classdict__":Str))=false:=by decide):PX X σ H0 (.Name x pos) (R K d):=
 bp (abq hN hv' hd hcd) fun H s Q k=>⟨v,hv,k v H (bi H) (Mono.mono s h)⟩
theorem k3 {P:VK}{x:Str}{v:V}{u:Value}(hm:X.mg x=some u)(r:bA v u)(h:∀ H,P v H)(hg:Gl X x:=by rfl)(hd:(x == ("__debug__":Str))=false:=by decide):PX X σ H0 (.Name x pos) P:=
 bp (acy hg hm r hd) fun H _ Q k=>k v H (bi H) (h H)
theorem abR {x:Str}{n:Int}{t:Tok}(hm:X.mg x=some (.int n t))(hg:Gl X x:=by rfl)(hd:(x == ("__debug__":Str))=false:=by decide):PX X σ H0 (.Name x pos) (cI K n):=
 k3 (v:=.int n) hm ⟨t,rfl⟩ (fun _=>rfl) hg hd
theorem ax {i:Int}{j:Nat}:PX X σ H0 (.Constant (.int i) j pos) (cI K i):=bp xp fun H _ Q k=>k _ H (bi H) rfl
theorem qe {i:Bool}{j:Nat}:PX X σ H0 (.Constant (.bool i) j pos) (cB K i):=bp ae4 fun H _ Q k=>k _ H (bi H) rfl
theorem abr {op:Operator}{g:Int->Int->Int}{i j:Int}(ho:OpR X (binaryOp op) (rI0 fun i j=>.int (g i j)))(ha:PX X σ H0 a (cI K i))(hb:PX X σ H0 b (cI K j)):PX X σ H0 (.BinOp a op b pos) (cI K (g i j)):=
 bp (uS ho ah ah) fun H s Q k=>ha H s _ fun v H1 s1 e1=>hb H1 (s.trans s1) _ fun w H2 s2 e2=>⟨i,j,e1,e2,k _ H2 (s1.trans s2) rfl⟩
theorem wQ {op:Operator}{C:Int->Int->Prop}{g:Int->Int->Int}{i j:Int}(ho:OpR X (binaryOp op) (rI C fun i j=>.int (g i j)))(hc:C i j)(ha:PX X σ H0 a (cI K i))(hb:PX X σ H0 b (cI K j)):PX X σ H0 (.BinOp a op b pos) (cI K (g i j)):=
 bp (uS ho ah ah) fun H s Q k=>ha H s _ fun v H1 s1 e1=>hb H1 (s.trans s1) _ fun w H2 s2 e2=>⟨i,j,e1,e2,hc,k _ H2 (s1.trans s2) rfl⟩
theorem aY {i j:Int}(ha:PX X σ H0 a (cI K i))(hb:PX X σ H0 b (cI K j)):PX X σ H0 (.BinOp a .Add b pos) (cI K (i+j)):=abr ad3 ha hb
theorem bG {i j:Int}(ha:PX X σ H0 a (cI K i))(hb:PX X σ H0 b (cI K j)):PX X σ H0 (.BinOp a .Sub b pos) (cI K (i - j)):=abr adW ha hb
theorem iK {i j:Int}(hc:ada i j)(ha:PX X σ H0 a (cI K i))(hb:PX X σ H0 b (cI K j)):PX X σ H0 (.BinOp a .Mult b pos) (cI K (i * j)):=wQ aeX hc ha hb
theorem yu {i j:Int}(hc:afl i j)(ha:PX X σ H0 a (cI K i))(hb:PX X σ H0 b (cI K j)):PX X σ H0 (.BinOp a .FloorDiv b pos) (cI K (i / j)):=wQ adj hc ha hb
theorem ad9 {i j:Int}(hc:0 < j)(ha:PX X σ H0 a (cI K i))(hb:PX X σ H0 b (cI K j)):PX X σ H0 (.BinOp a .Mod b pos) (cI K (i % j)):=wQ (C:=fun _ j=>0 < j) aeI hc ha hb
theorem wM {i:Int}(ha:PX X σ H0 a (cI K i)):PX X σ H0 (.UnaryOp .USub a pos) (cI K (-i)):=
 bp (afB aeY ah) fun H s Q k=>ha H s _ fun v H1 s1 e1=>⟨i,e1,k _ H1 s1 rfl⟩
theorem ad0 {op:CmpOp}{g:Int->Int->Bool}{i j:Int}(ho:OpR X (compareOp op) (rI0 fun i j=>.bl (g i j)))(hm:behindInMarks op b=false)(ha:PX X σ H0 a (cI K i))(hb:PX X σ H0 b (cI K j)):PX X σ H0 (.Compare a [op] [b] pos) (cB K (g i j)):=
 bp (tq ho ah ah hm) fun H s Q k=>ha H s _ fun v H1 s1 e1=>hb H1 (s.trans s1) _ fun w H2 s2 e2=>⟨i,j,e1,e2,k _ H2 (s1.trans s2) rfl⟩
theorem adG {i j:Int}(ha:PX X σ H0 a (cI K i))(hb:PX X σ H0 b (cI K j)):PX X σ H0 (.Compare a [.GtE] [b] pos) (cB K (decide (j<=i))):=ad0 afg (iw _) ha hb
theorem uK {i j:Int}:decide (V.int i=V.int j)=decide (i=j):=by
 rw [Bool.eq_iff_iff]
 simp
theorem pH {i j:Int}(ha:PX X σ H0 a (cI K i))(hb:PX X σ H0 b (cI K j)):PX X σ H0 (.Compare a [.Eq] [b] pos) (cB K (decide (i=j))):=
 bp (tq adH ah ah (iw _)) fun H s Q k=>ha H s _ fun v H1 s1 e1=>hb H1 (s.trans s1) _ fun w H2 s2 e2=>by
  have e1:v=.int i:=e1
  have e2:w=.int j:=e2
  subst e1 e2
  exact ⟨rfl,by rw [uK];exact k _ H2 (s1.trans s2) rfl⟩
theorem ae5 {i j:Int}(ha:PX X σ H0 a (cI K i))(hb:PX X σ H0 b (cI K j)):PX X σ H0 (.Compare a [.NotEq] [b] pos) (cB K (!decide (i=j))):=
 bp (tq ads ah ah (iw _)) fun H s Q k=>ha H s _ fun v H1 s1 e1=>hb H1 (s.trans s1) _ fun w H2 s2 e2=>by
  have e1:v=.int i:=e1
  have e2:w=.int j:=e2
  subst e1 e2
  exact ⟨rfl,by rw [uK];exact k _ H2 (s1.trans s2) rfl⟩
theorem lw {op op':CmpOp}{g g':Int->Int->Bool}{i j m:Int}(ho:OpR X (compareOp op) (rI0 fun i j=>.bl (g i j)))(ho':OpR X (compareOp op') (rI0 fun i j=>.bl (g' i j)))
  (ha:PX X σ H0 a (cI K i))(hb:PX X σ H0 b (cI K j))(hc:PX X σ H0 c (cI K m))(hm:lastMarks [op,op'] [b,c]=false:=by with_unfolding_all rfl):PX X σ H0 (.Compare a [op,op'] [b,c] pos) (cB K (g i j&&g' j m)):=
 bp (abo ho ho' ah ah ah hm) fun H s Q k=>ha H s _ fun v H1 s1 e1=>hb H1 (s.trans s1) _ fun w H2 s2 e2=>by
  refine ⟨i,j,e1,e2,g i j,rfl,?_⟩
  cases q:g i j with
  | false=>
   rw [if_neg Bool.false_ne_true]
   exact k _ H2 (s1.trans s2) (by show V.bl false=V.bl (g i j&&g' j m);rw [q];rfl)
  | true=>
   rw [if_pos rfl]
   exact hc H2 (s.trans (s1.trans s2)) _ fun z H3 s3 e3=>⟨j,m,e2,e3,k _ H3 (s1.trans (s2.trans s3)) (by show V.bl (g' j m)=V.bl (g i j&&g' j m);rw [q];rfl)⟩
theorem w9 {P:VK}{op:PySem.BoolOp}(ha:PX X σ H0 a P):PX X σ H0 (.BoolOp op [a] pos) P:=bp (aeL ah) fun H s Q k=>ha H s Q k
theorem aax {p q:Bool}{rest:List Expr}(ha:PX X σ H0 a (cB K p))(hb:p=true->PX X σ H0 (.BoolOp .And (b::rest) pos) (cB K q)):PX X σ H0 (.BoolOp .And (a::b::rest) pos) (cB K (p&&q)):=
 bp (adU ah ah) fun H s Q k=>ha H s _ fun v H1 s1 e1=>by
  refine ⟨p,e1,?_⟩
  cases z:p with
  | false=>
   rw [if_neg Bool.false_ne_true]
   exact k _ H1 s1 (by rw [z];rfl)
  | true=>
   rw [if_pos rfl]
   exact hb z H1 (s.trans s1) _ fun w H2 s2 e2=>k _ H2 (s1.trans s2) (by rw [z,Bool.true_and];exact e2)
theorem afq {p q:Bool}{rest:List Expr}(ha:PX X σ H0 a (cB K p))(hb:p=false->PX X σ H0 (.BoolOp .Or (b::rest) pos) (cB K q)):PX X σ H0 (.BoolOp .Or (a::b::rest) pos) (cB K (p || q)):=
 bp (aft ah ah) fun H s Q k=>ha H s _ fun v H1 s1 e1=>by
  refine ⟨p,e1,?_⟩
  cases z:p with
  | true=>
   rw [if_pos rfl]
   exact k _ H1 s1 (by rw [z];rfl)
  | false=>
   rw [if_neg Bool.false_ne_true]
   exact hb z H1 (s.trans s1) _ fun w H2 s2 e2=>k _ H2 (s1.trans s2) (by rw [z,Bool.false_or];exact e2)
theorem k4 {P:VK}{d:Bool}(hc:PTX X σ H0 c d)(ha:d=true->PX X σ H0 a P)(hb:d=false->PX X σ H0 b P):PX X σ H0 (.IfExp c a b pos) P:=
 bp (abG m8 ah ah) fun H s Q k=>hc H s _ fun H1 s1=>by
  cases d with
  | true=>exact ha rfl H1 (s.trans s1) Q fun v H2 s2 p=>k v H2 (s1.trans s2) p
  | false=>exact hb rfl H1 (s.trans s1) Q fun v H2 s2 p=>k v H2 (s1.trans s2) p
theorem bn {p:Bool}(ha:PX X σ H0 a (cB K p))(he:∀ whole,isTrue a X.env whole=(do let v <-whole;standAt a.pos;holding [v] (truthy v)):=by intro _;rfl):PTX X σ H0 a p:=
 j6 (aaD ah he) fun H s Q k=>ha H s _ fun v H1 s1 e1=>⟨p,e1,k H1 s1⟩
theorem bN {p:Bool}(ha:PTX X σ H0 a p):PTX X σ H0 (.UnaryOp .Not a pos) (!p):=j6 (ab4 m8) fun H s Q k=>ha H s _ fun H1 s1=>k H1 s1
theorem kx {op:CmpOp}{r:R2}{p:Bool}(ho:OpR X (compareOp op) r)(hm:behindInMarks op b=false)(h:∀ H,Same H0 H->∀ Q:VK,(∀ v H',Same H H'->v=.bl p->Q v H')->tOp r (EX X a) (EX X b) σ H Q):PTX X σ H0 (.Compare a [op] [b] pos) p:=
 j6 (acS ho ah ah hm) fun H s Q k=>h H s _ fun v H1 s1 e1=>⟨p,e1,k H1 s1⟩
theorem uE {op:CmpOp}{g:Int->Int->Bool}{i j:Int}(ho:OpR X (compareOp op) (rI0 fun i j=>.bl (g i j)))(hm:behindInMarks op b=false)(ha:PX X σ H0 a (cI K i))(hb:PX X σ H0 b (cI K j)):PTX X σ H0 (.Compare a [op] [b] pos) (g i j):=
 kx ho hm fun H s Q k=>ha H s _ fun v H1 s1 e1=>hb H1 (s.trans s1) _ fun w H2 s2 e2=>⟨i,j,e1,e2,k _ H2 (s1.trans s2) rfl⟩
theorem xJ {i j:Int}(ha:PX X σ H0 a (cI K i))(hb:PX X σ H0 b (cI K j)):PTX X σ H0 (.Compare a [.Lt] [b] pos) (decide (i < j)):=uE vi (iw _) ha hb
theorem aaq {i j:Int}(ha:PX X σ H0 a (cI K i))(hb:PX X σ H0 b (cI K j)):PTX X σ H0 (.Compare a [.LtE] [b] pos) (decide (i<=j)):=uE kO (iw _) ha hb
theorem tu {i j:Int}(ha:PX X σ H0 a (cI K i))(hb:PX X σ H0 b (cI K j)):PTX X σ H0 (.Compare a [.Gt] [b] pos) (decide (j < i)):=uE afz (iw _) ha hb
theorem tw {i j:Int}(ha:PX X σ H0 a (cI K i))(hb:PX X σ H0 b (cI K j)):PTX X σ H0 (.Compare a [.Eq] [b] pos) (decide (i=j)):=
 kx adH (iw _) fun H s Q k=>ha H s _ fun v H1 s1 e1=>hb H1 (s.trans s1) _ fun w H2 s2 e2=>by
  have e1:v=.int i:=e1
  have e2:w=.int j:=e2
  subst e1 e2
  exact ⟨rfl,by rw [uK];exact k _ H2 (s1.trans s2) rfl⟩
theorem abS {i j:Int}(ha:PX X σ H0 a (cI K i))(hb:PX X σ H0 b (cI K j)):PTX X σ H0 (.Compare a [.NotEq] [b] pos) (!decide (i=j)):=
 kx ads (iw _) fun H s Q k=>ha H s _ fun v H1 s1 e1=>hb H1 (s.trans s1) _ fun w H2 s2 e2=>by
  have e1:v=.int i:=e1
  have e2:w=.int j:=e2
  subst e1 e2
  exact ⟨rfl,by rw [uK];exact k _ H2 (s1.trans s2) rfl⟩
theorem sK {op op':CmpOp}{g g':Int->Int->Bool}{i j m:Int}(ho:OpR X (compareOp op) (rI0 fun i j=>.bl (g i j)))(ho':OpR X (compareOp op') (rI0 fun i j=>.bl (g' i j)))
  (ha:PX X σ H0 a (cI K i))(hb:PX X σ H0 b (cI K j))(hc:PX X σ H0 c (cI K m))(hm:lastMarks [op,op'] [b,c]=false:=by with_unfolding_all rfl):PTX X σ H0 (.Compare a [op,op'] [b,c] pos) (g i j&&g' j m):=
 j6 (abN ho ho' ah ah ah hm) fun H s Q k=>ha H s _ fun v H1 s1 e1=>hb H1 (s.trans s1) _ fun w H2 s2 e2=>by
  refine ⟨i,j,e1,e2,g i j,rfl,?_⟩
  cases q:g i j with
  | false=>
   rw [if_neg Bool.false_ne_true]
   exact ⟨false,rfl,by have z:=k H2 (s1.trans s2);rw [q] at z;exact z⟩
  | true=>
   rw [if_pos rfl]
   exact hc H2 (s.trans (s1.trans s2)) _ fun z H3 s3 e3=>⟨j,m,e2,e3,g' j m,rfl,by have z:=k H3 (s1.trans (s2.trans s3));rw [q] at z;exact z⟩
def PWX (X:Cx)(σ:L2.St)(H0:Hp)(e:Expr)(b:Bool):Prop:=∃ t:TT,PW X e t/\∀ H,Same H0 H->∀ Q:Bool->Hp->Prop,(∀ H',Same H H'->Q b H')->t σ H Q
theorem PWX.pt {p:Bool}(h:PWX X σ H0 a p):PTX X σ H0 a p:=let ⟨_,h1,h2⟩:=h;j6 h1.pt h2
theorem abg {p:Bool}(ha:PTX X σ H0 a p):PWX X σ H0 (.BoolOp .And [a] pos) p:=⟨_,acY m8,fun H s Q k=>ha H s Q k⟩
theorem t6 {p:Bool}(ha:PTX X σ H0 a p):PWX X σ H0 (.BoolOp .Or [a] pos) p:=⟨_,aeV m8,fun H s Q k=>ha H s Q k⟩
theorem acj {p q:Bool}{rest:List Expr}(ha:PTX X σ H0 a p)(hb:PWX X σ H0 (.BoolOp .And (b::rest) pos) q):PWX X σ H0 (.BoolOp .And (a::b::rest) pos) (p&&q):=by
 obtain ⟨t,h1,h2⟩:=hb
 refine ⟨_,aeG m8 h1,fun H s Q k=>ha H s _ fun H1 s1=>?_⟩
 cases p with
 | false=>exact k H1 s1
 | true=>exact h2 H1 (s.trans s1) Q fun H2 s2=>k H2 (s1.trans s2)
theorem xF {p q:Bool}{rest:List Expr}(ha:PTX X σ H0 a p)(hb:PWX X σ H0 (.BoolOp .Or (b::rest) pos) q):PWX X σ H0 (.BoolOp .Or (a::b::rest) pos) (p || q):=by
 obtain ⟨t,h1,h2⟩:=hb
 refine ⟨_,afk m8 h1,fun H s Q k=>ha H s _ fun H1 s1=>?_⟩
 cases p with
 | true=>exact k H1 s1
 | false=>exact h2 H1 (s.trans s1) Q fun H2 s2=>k H2 (s1.trans s2)
end
end Bq
set_option maxHeartbeats 2000000
namespace Bq
open PySem PySem.Spec PyProof.Rows L2
class Frz {α:Type} (R:Rp α):Prop where
 frz:∀ {K:PySem.W.Frag} {a:α} {v:V} {H:Hp} {D:Addr} {acc acc':List V},H D=some (.lst acc)->R K a v H->R K a v (upd H D (.lst acc'))
instance:Frz cI:=⟨fun _ h=>h⟩
instance:Frz cB:=⟨fun _ h=>h⟩
theorem acE {K:PySem.W.Frag}{H:Hp}{D a:Addr}{acc acc' xs:List V}(h:H D=some (.lst acc))(q:SqT K H a xs):SqT K (upd H D (.lst acc')) a xs:=by
 rcases q with (q | ⟨o,q⟩) | q
 ·exact .inl (.inl (by rw [am (b9 q h (by intro z;cases z))];exact q))
 ·exact .inl (.inr ⟨o,by rw [am (b9 q h (by intro z;cases z))];exact q⟩)
 ·exact .inr q
theorem All.put {α:Type}{R:Rp α}[m:Frz R]{K:PySem.W.Frag}{H:Hp}{D:Addr}{acc acc' xs:List V}{as:List α}(h:H D=some (.lst acc))(q:All R K H xs as):All R K (upd H D (.lst acc')) xs as:=Paired.mapP q fun _ _ z=>m.frz h z
instance {α:Type}{R:Rp α}[Frz R]:Frz (cT R):=⟨fun h ⟨a,xs,e,q,z⟩=>⟨a,xs,e,acE h q,z.put h⟩⟩
def cM {α:Type}(R:Rp α):Rp (List α):=fun K as v H=>∃ p xs,v=.ref p/\H p=some (.lst xs)/\All R K H xs as
def cF (H0:Hp){α:Type}(R:Rp α):Rp (List α):=fun K as v H=>∃ p xs,v=.ref p/\H0 p=none/\H p=some (.lst xs)/\All R K H xs as
instance {α:Type}{R:Rp α}[Mono R]:Mono (cM R):=⟨fun s ⟨a,xs,e,q,h⟩=>⟨a,xs,e,s _ _ q,h.mono s⟩⟩
instance {α:Type}{H0:Hp}{R:Rp α}[Mono R]:Mono (cF H0 R):=⟨fun s ⟨a,xs,e,n,q,h⟩=>⟨a,xs,e,n,s _ _ q,h.mono s⟩⟩
section
variable {α:Type}{R:Rp α}{K:PySem.W.Frag}{as:List α}{v:V}{H H0:Hp}
theorem cF.toM (h:cF H0 R K as v H):cM R K as v H:=let ⟨p,xs,e,_,q,z⟩:=h;⟨p,xs,e,q,z⟩
theorem cM.toL (h:cM R K as v H):cL R K as v H:=let ⟨p,xs,e,q,z⟩:=h;⟨p,xs,e,SqL.of q,z⟩
theorem cF.toL (h:cF H0 R K as v H):cL R K as v H:=h.toM.toL
theorem cM.toQ (h:cM R K as v H):cQ R K as v H:=.inl h.toL
end
def cut {α:Type}(as:List α)(lo hi:Option Int):List α:=(as.drop (HT.sIx as.length 0 lo)).take (HT.sIx as.length as.length hi - HT.sIx as.length 0 lo)
section
variable {α:Type}{R:Rp α}{K:PySem.W.Frag}{H:Hp}
theorem All.cut {xs:List V}{as:List α}(h:All R K H xs as)(lo hi:Option Int):All R K H (wo xs lo hi) (Bq.cut as lo hi):=by
 unfold wo Bq.cut
 rw [h.length]
 exact (h.drop _).take _
theorem All.atI {xs:List V}{as:List α}(h:All R K H xs as){i:Int}{d:α}(e:L2.atI as i=some d):∃ x,L2.atI xs i=some x/\R K d x H:=by
 unfold L2.atI at e ⊢
 rw [h.length]
 cases q:ixN as.length i with
 | none=>rw [q] at e;cases e
 | some j=>
  rw [q] at e
  exact h.get e
end
section
variable {X:Cx}{σ:L2.St}{H0:Hp}{a b c e:Expr}{es:List Expr}{pos p p2:Pos}{α β:Type}{R:Rp α}{S:Rp β}{K:PySem.W.Frag}
theorem PX.toL {as:List α}(h:PX X σ H0 e (cF H0 R K as)):PX X σ H0 e (cL R K as):=h.imp fun _ _ _ q=>q.toL
theorem PX.toM {as:List α}(h:PX X σ H0 e (cF H0 R K as)):PX X σ H0 e (cM R K as):=h.imp fun _ _ _ q=>q.toM
theorem PX.toQ {as:List α}(h:PX X σ H0 e (cL R K as)):PX X σ H0 e (cQ R K as):=h.imp fun _ _ _ q=>.inl q
theorem PX.toQT {as:List α}(h:PX X σ H0 e (cT R K as)):PX X σ H0 e (cQ R K as):=h.imp fun _ _ _ q=>.inr q
theorem aaB [Mono R]{as:List α}{i:Int}{d:α}(ha:PX X σ H0 a (cQ R X.K as))(hb:PX X σ H0 b (cI X.K i))(hd:atI as i=some d)(hs:oI b:=by intro _ _;rfl):PX X σ H0 (.Subscript a b pos) (R X.K d):=
 bp (yd (acK.or uo) ah ah hs) fun H s Q k=>ha H s _ fun v H1 s1 h1=>hb H1 (s.trans s1) _ fun w H2 s2 e2=>by
  obtain ⟨l,xs,e1,q,z⟩:=(Mono.mono s2 h1:cQ R X.K as v H2).at_
  obtain ⟨x,hx,rx⟩:=z.atI hd
  rcases q with q | q
  ·exact .inl ⟨l,xs,i,x,e1,e2,q,hx,k x H2 (s1.trans s2) rx⟩
  ·exact .inr ⟨l,xs,i,x,e1,e2,q,hx,k x H2 (s1.trans s2) rx⟩
theorem aI [Mono R]{as:List α}{i:Int}{d:α}(ha:PX X σ H0 a (cQ R K as))(hb:PX X σ H0 b (cI K i))(hd:atI as i=some d)(hs:oI b:=by intro _ _;rfl)(hK:X.K=K:=by rfl):PX X σ H0 (.Subscript a b pos) (R K d):=by
 subst hK
 exact aaB ha hb hd hs
theorem acr [Mono R][Mono S]{d:α×β}(ha:PX X σ H0 a (c2 R S X.K d)){j:Nat}{pi:Pos}:PX X σ H0 (.Subscript a (.Constant (.int 0) j pi) pos) (R X.K d.1):=
 bp (yd uo ah xp (by intro _ _;rfl)) fun H s Q k=>ha H s _ fun v H1 s1 ⟨l,x,y,e,q,h1,h2⟩=>⟨l,[x,y],0,x,e,rfl,q,rfl,k x H1 s1 h1⟩
theorem ad7 [Mono R][Mono S]{d:α×β}(ha:PX X σ H0 a (c2 R S K d)){j:Nat}{pi:Pos}(hK:X.K=K:=by rfl):PX X σ H0 (.Subscript a (.Constant (.int 0) j pi) pos) (R K d.1):=by
 subst hK
 exact acr ha
theorem ac4 [Mono R][Mono S]{d:α×β}(ha:PX X σ H0 a (c2 R S X.K d)){j:Nat}{pi:Pos}:PX X σ H0 (.Subscript a (.Constant (.int 1) j pi) pos) (S X.K d.2):=
 bp (yd uo ah xp (by intro _ _;rfl)) fun H s Q k=>ha H s _ fun v H1 s1 ⟨l,x,y,e,q,h1,h2⟩=>⟨l,[x,y],1,y,e,rfl,q,rfl,k y H1 s1 h2⟩
theorem aen [Mono R][Mono S]{d:α×β}(ha:PX X σ H0 a (c2 R S K d)){j:Nat}{pi:Pos}(hK:X.K=K:=by rfl):PX X σ H0 (.Subscript a (.Constant (.int 1) j pi) pos) (S K d.2):=by
 subst hK
 exact ac4 ha
def POX (X:Cx)(σ:L2.St)(H0:Hp)(eo:Option Expr)(o:Option Int):Prop:=∃ t:TO,PO X eo t/\∀ H,Same H0 H->∀ Q:Option Int->Hp->Prop,(∀ H',Same H H'->Q o H')->t σ H Q
theorem cE:POX X σ H0 none none:=⟨_,acP,fun H _ Q k=>k H (bi H)⟩
theorem aS {i:Int}(h:PX X σ H0 e (cI K i)):POX X σ H0 (some e) (some i):=⟨_,adf ah,fun H s Q k=>h H s _ fun v H1 s1 e1=>⟨i,e1,k H1 s1⟩⟩
theorem acQ [Mono R]{as:List α}{lo hi:Option Expr}{l h:Option Int}(ha:PX X σ H0 a (cL R X.K as))(hl:POX X σ H0 lo l)(hh:POX X σ H0 hi h):PX X σ H0 (.Subscript a (.Slice lo hi none p2) pos) (cF H0 R X.K (cut as l h)):=by
 obtain ⟨tl,pl,kl⟩:=hl
 obtain ⟨th,ph,kh⟩:=hh
 refine bp (uX ac0 ah pl ph) fun H s Q k=>ha H s _ fun v H1 s1 h1=>kl H1 (s.trans s1) _ fun H2 s2=>kh H2 (s.trans (s1.trans s2)) _ fun H3 s3=>?_
 obtain ⟨q,xs,e,hs,z⟩:=(Mono.mono (s2.trans s3) h1:cL R X.K as v H3)
 have s13:Same H H3:=s1.trans (s2.trans s3)
 refine ⟨q,xs,e,hs,fun p hp=>k _ _ (cD s13 hp) ⟨p,_,rfl,(s.trans s13).free hp,aj,?_⟩⟩
 exact (z.cut l h).mono (a8 hp)
theorem eO [Mono R]{as:List α}{lo hi:Option Expr}{l h:Option Int}(ha:PX X σ H0 a (cL R K as))(hl:POX X σ H0 lo l)(hh:POX X σ H0 hi h)(hK:X.K=K:=by rfl):PX X σ H0 (.Subscript a (.Slice lo hi none p2) pos) (cF H0 R K (cut as l h)):=by
 subst hK
 exact acQ ha hl hh
theorem ack [Mono R]{as:List α}{lo hi:Option Expr}{l h:Option Int}(ha:PX X σ H0 a (cT R X.K as))(hl:POX X σ H0 lo l)(hh:POX X σ H0 hi h)
  (hw:¬ (HT.sIx as.length 0 l=0/\HT.sIx as.length as.length h=as.length)):PX X σ H0 (.Subscript a (.Slice lo hi none p2) pos) (cT R X.K (cut as l h)):=by
 obtain ⟨tl,pl,kl⟩:=hl
 obtain ⟨th,ph,kh⟩:=hh
 refine bp (uX aeA ah pl ph) fun H s Q k=>ha H s _ fun v H1 s1 h1=>kl H1 (s.trans s1) _ fun H2 s2=>kh H2 (s.trans (s1.trans s2)) _ fun H3 s3=>?_
 obtain ⟨q,xs,e,hs,z⟩:=(Mono.mono (s2.trans s3) h1:cT R X.K as v H3)
 have s13:Same H H3:=s1.trans (s2.trans s3)
 refine ⟨q,xs,e,hs,by rw [z.length];exact hw,fun p hp=>k _ _ (cD s13 hp) ⟨p,_,rfl,SqT.of aj,?_⟩⟩
 exact (z.cut l h).mono (a8 hp)
theorem mD [Mono R]{as:List α}{lo hi:Option Expr}{l h:Option Int}(ha:PX X σ H0 a (cT R K as))(hl:POX X σ H0 lo l)(hh:POX X σ H0 hi h)
  (hw:¬ (HT.sIx as.length 0 l=0/\HT.sIx as.length as.length h=as.length))(hK:X.K=K:=by rfl):PX X σ H0 (.Subscript a (.Slice lo hi none p2) pos) (cT R K (cut as l h)):=by
 subst hK
 exact ack ha hl hh hw
def PAX (X:Cx)(σ:L2.St)(H0:Hp)(es:List Expr)(P:List V->Hp->Prop):Prop:=∃ t:TA,PA X es t/\∀ H,Same H0 H->∀ Q:List V->Hp->Prop,(∀ vs H',Same H H'->P vs H'->Q vs H')->t σ H Q
theorem acR:PAX X σ H0 [] (fun vs _=>vs=[]):=⟨_,be,fun H _ Q k=>k [] H (bi H) rfl⟩
theorem aJ:PAX X σ H0 [] (fun vs H=>All R K H vs []):=⟨_,be,fun H _ Q k=>k [] H (bi H) .nil⟩
theorem ao [Mono R]{d:α}{ds:List α}(h:PX X σ H0 e (R K d))(hr:PAX X σ H0 es (fun vs H=>All R K H vs ds))(hs:starEach (e::es) X.env=(false,eval e X.env)::starEach es X.env:=by rfl):
  PAX X σ H0 (e::es) (fun vs H=>All R K H vs (d::ds)):=by
 obtain ⟨t,p,q⟩:=hr
 exact ⟨_,aq ah p hs,fun H s Q k=>h H s _ fun v H1 s1 h1=>q H1 (s.trans s1) _ fun ws H2 s2 h2=>k _ H2 (s1.trans s2) (.cons (Mono.mono s2 h1) h2)⟩
theorem bu [Mono R]{ds:List α}(h:PAX X σ H0 es (fun vs H=>All R K H vs ds))(hn:ds.length<=sizeLine):PX X σ H0 (.List es pos) (cF H0 R K ds):=by
 obtain ⟨t,q,z⟩:=h
 refine bp (aeW q) fun H s Q k=>z H s _ fun vs H1 s1 h1=>⟨by rw [h1.length];exact hn,fun p hp=>k _ _ (cD s1 hp) ⟨p,vs,rfl,(s.trans s1).free hp,aj,h1.mono (a8 hp)⟩⟩
theorem aas [Mono R]{ds:List α}{k0:Nat}(h:PAX X σ H0 es (fun vs H=>All R K H vs ds))(hn:ds.length<=sizeLine):PX X σ H0 (.Tuple es k0 pos) (cT R K ds):=by
 obtain ⟨t,q,z⟩:=h
 refine bp (aex q) fun H s Q k=>z H s _ fun vs H1 s1 h1=>⟨by rw [h1.length];exact hn,fun p hp=>k _ _ (cD s1 hp) ⟨p,vs,rfl,SqT.of aj,h1.mono (a8 hp)⟩⟩
theorem ac9 {as:List α}[Mono R](h:PX X σ H0 a (cQ R X.K as))(hm:X.mg "len"=none)(hg:Gl X "len":=by rfl)(hs:starEach [a] X.env=(false,eval a X.env)::starEach [] X.env:=by rfl):PX X σ H0 (.Call (.Name "len" p) [a] [] pos) (cI X.K as.length):=
 bp (hU tK hg hm PySem.boot_len (aq ah be hs) (by decide) (by decide) hs rfl) fun H s Q k=>h H s _ fun v H1 s1 h1=>by
  obtain ⟨l,xs,e,q,z⟩:=h1.at_
  exact ⟨l,xs,by rw [e],q,k _ H1 s1 (by show V.int _=V.int _;rw [z.length])⟩
theorem dc {as:List α}[Mono R](h:PX X σ H0 a (cQ R K as))(hm:X.mg "len"=none)(hg:Gl X "len":=by rfl)(hs:starEach [a] X.env=(false,eval a X.env)::starEach [] X.env:=by rfl)(hK:X.K=K:=by rfl):PX X σ H0 (.Call (.Name "len" p) [a] [] pos) (cI K as.length):=by
 subst hK
 exact ac9 h hm hg hs
theorem wG {as:List α}[Mono R](h:PX X σ H0 a (cQ R X.K as))(hm:X.mg "tuple"=none)(hv:bootBuiltins "tuple"=some (.type "tuple"))(hg:Gl X "tuple":=by rfl)(hs:starEach [a] X.env=(false,eval a X.env)::starEach [] X.env:=by rfl):
  PX X σ H0 (.Call (.Name "tuple" p) [a] [] pos) (cT R X.K as):=
 bp (si rS hg hm hv (aq ah be hs) (by decide) (by decide) hs rfl) fun H s Q k=>h H s _ fun v H1 s1 h1=>by
  rcases h1 with ⟨l,xs,e,q,z⟩ | ⟨l,xs,e,q,z⟩
  ·exact ⟨l,xs,by rw [e],.inl ⟨q,fun p hp=>k _ _ (cD s1 hp) ⟨p,xs,rfl,SqT.of aj,z.mono (a8 hp)⟩⟩⟩
  ·exact ⟨l,xs,by rw [e],.inr ⟨q,k _ H1 s1 ⟨l,xs,rfl,q,z⟩⟩⟩
theorem pD {as:List α}[Mono R](h:PX X σ H0 a (cQ R K as))(hm:X.mg "tuple"=none)(hv:bootBuiltins "tuple"=some (.type "tuple"))(hg:Gl X "tuple":=by rfl)(hs:starEach [a] X.env=(false,eval a X.env)::starEach [] X.env:=by rfl)(hK:X.K=K:=by rfl):
  PX X σ H0 (.Call (.Name "tuple" p) [a] [] pos) (cT R K as):=by
 subst hK
 exact wG h hm hv hg hs
theorem wJ {as:List α}[Mono R](h:PX X σ H0 a (cQ R X.K as))(hm:X.mg "list"=none)(hv:bootBuiltins "list"=some (.type "list"))(hg:Gl X "list":=by rfl)(hs:starEach [a] X.env=(false,eval a X.env)::starEach [] X.env:=by rfl):
  PX X σ H0 (.Call (.Name "list" p) [a] [] pos) (cF H0 R X.K as):=
 bp (si sQ hg hm hv (aq ah be hs) (by decide) (by decide) hs rfl) fun H s Q k=>h H s _ fun v H1 s1 h1=>by
  obtain ⟨l,xs,e,q,z⟩:=h1.at_
  exact ⟨l,xs,by rw [e],q,fun p hp=>k _ _ (cD s1 hp) ⟨p,xs,rfl,(s.trans s1).free hp,aj,z.mono (a8 hp)⟩⟩
theorem yY {as:List α}[Mono R](h:PX X σ H0 a (cQ R K as))(hm:X.mg "list"=none)(hv:bootBuiltins "list"=some (.type "list"))(hg:Gl X "list":=by rfl)(hs:starEach [a] X.env=(false,eval a X.env)::starEach [] X.env:=by rfl)(hK:X.K=K:=by rfl):
  PX X σ H0 (.Call (.Name "list" p) [a] [] pos) (cF H0 R K as):=by
 subst hK
 exact wJ h hm hv hg hs
theorem acD {ns:List Int}(hc:X.calm=true)(h:PX X σ H0 a (cL cI X.K ns))(hm:X.mg "sum"=none)(hv:bootBuiltins "sum"=some (.builtin "sum"))(hg:Gl X "sum":=by rfl)(hs:starEach [a] X.env=(false,eval a X.env)::starEach [] X.env:=by rfl):
  PX X σ H0 (.Call (.Name "sum" p) [a] [] pos) (cI X.K ns.sum):=
 bp (hU (aeh hc) hg hm hv (aq ah be hs) (by decide) (by decide) hs rfl) fun H s Q k=>h H s _ fun v H1 s1 ⟨l,xs,e,q,z⟩=>by
  rw [z.ints] at q
  exact ⟨l,ns,by rw [e],q,k _ H1 s1 rfl⟩
theorem tH {ns:List Int}(hc:X.calm=true)(h:PX X σ H0 a (cL cI K ns))(hm:X.mg "sum"=none)(hv:bootBuiltins "sum"=some (.builtin "sum"))(hg:Gl X "sum":=by rfl)(hs:starEach [a] X.env=(false,eval a X.env)::starEach [] X.env:=by rfl)(hK:X.K=K:=by rfl):
  PX X σ H0 (.Call (.Name "sum" p) [a] [] pos) (cI K ns.sum):=by
 subst hK
 exact acD hc h hm hv hg hs
theorem acd {ns:List Bool}(hc:X.calm=true)(h:PX X σ H0 a (cL cB X.K ns))(hm:X.mg "all"=none)(hv:bootBuiltins "all"=some (.builtin "all"))(hg:Gl X "all":=by rfl)(hs:starEach [a] X.env=(false,eval a X.env)::starEach [] X.env:=by rfl):
  PX X σ H0 (.Call (.Name "all" p) [a] [] pos) (cB X.K (ns.all id)):=
 bp (hU (aef hc) hg hm hv (aq ah be hs) (by decide) (by decide) hs rfl) fun H s Q k=>h H s _ fun v H1 s1 ⟨l,xs,e,q,z⟩=>by
  rw [z.bools] at q
  exact ⟨l,ns,by rw [e],q,k _ H1 s1 rfl⟩
theorem aaG {ns:List Bool}(hc:X.calm=true)(h:PX X σ H0 a (cL cB K ns))(hm:X.mg "all"=none)(hv:bootBuiltins "all"=some (.builtin "all"))(hg:Gl X "all":=by rfl)(hs:starEach [a] X.env=(false,eval a X.env)::starEach [] X.env:=by rfl)(hK:X.K=K:=by rfl):
  PX X σ H0 (.Call (.Name "all" p) [a] [] pos) (cB K (ns.all id)):=by
 subst hK
 exact acd hc h hm hv hg hs
theorem oF {i j:Int}(hc:X.calm=true)(ha:PX X σ H0 a (cI K i))(hb:PX X σ H0 b (cI K j))(hm:X.mg "max"=none)(hv:bootBuiltins "max"=some (.builtin "max"))(hg:Gl X "max":=by rfl)
  (hs:starEach [a,b] X.env=(false,eval a X.env)::starEach [b] X.env:=by rfl)(hs':starEach [b] X.env=(false,eval b X.env)::starEach [] X.env:=by rfl)(hpl:(backTo pos (starEach [b] X.env)).any (·.1)=false:=by rfl):
  PX X σ H0 (.Call (.Name "max" p) [a,b] [] pos) (cI K (max i j)):=
 bp (hU (zV hc) hg hm hv (aq ah (aq ah be hs') hs) (by decide) (by decide) hs hpl) fun H s Q k=>ha H s _ fun v H1 s1 e1=>hb H1 (s.trans s1) _ fun w H2 s2 e2=>by
  have e1:v=.int i:=e1
  have e2:w=.int j:=e2
  refine ⟨i,j,by rw [e1,e2],k _ H2 (s1.trans s2) ?_⟩
  show V.int _=V.int _
  congr 1
  by_cases q:j > i
  ·rw [if_pos q];omega
  ·rw [if_neg q];omega
theorem pZ [Mono R]{as bs:List α}(ha:PX X σ H0 a (cM R K as))(hb:PX X σ H0 b (cM R K bs))(hn:as.length+bs.length<=sizeLine):PX X σ H0 (.BinOp a .Add b pos) (cF H0 R K (as++bs)):=
 bp (uS abu ah ah) fun H s Q k=>ha H s _ fun v H1 s1 h1=>hb H1 (s.trans s1) _ fun w H2 s2 h2=>by
  obtain ⟨l,xs,e,q,z⟩:=(Mono.mono s2 h1:cM R K as v H2)
  obtain ⟨l',xs',e',q',z'⟩:=h2
  refine ⟨l,l',xs,xs',e,e',q,q',by rw [z.length,z'.length];exact hn,fun p hp=>k _ _ (cD (s1.trans s2) hp) ⟨p,_,rfl,(s.trans (s1.trans s2)).free hp,aj,?_⟩⟩
  exact (z.append z').mono (a8 hp)
def spF {α β:Type}(K:PySem.W.Frag)(A:PySem.W.Frag->α->List V->Hp->Prop)(pre:α->Prop)(S:Rp β)(f:α->β):Sp:=fun vs H Q _=>∃ d,A K d vs H/\pre d/\∀ v H',Same H H'->S K (f d) v H'->Q v H'
section
variable {k:Nat}{f:Addr}{fd:FuncData}{ps:List Str}{x:Str}{γ δ ε:Type}{T:Rp γ}{U:Rp δ}{W:Rp ε}
theorem ade {A:PySem.W.Frag->γ->List V->Hp->Prop}{pre:γ->Prop}{g:γ->δ}{d:γ}{P:List V->Hp->Prop}(F:eI X.prog X.w X.K X.mg X.base CX0 k f fd ps (spF K A pre U g))(hr:Room k X.A)(hm:X.mg x=some (.ref f))(hk:PySem.W.keepIn X.K (.ref f)=true)(hb:Binds X.K fd ps [])
  (ha:PAX X σ H0 (e::es) P)(hA:∀ vs H,Same H0 H->P vs H->A K d vs H)(hp:pre d)(hg:Gl X x:=by rfl)(hdb:(x == ("__debug__":Str))=false:=by decide)
  (he:starEach (e::es) X.env=(false,eval e X.env)::starEach es X.env:=by rfl)(hpl:(backTo pos (starEach es X.env)).any (·.1)=false:=by rfl):PX X σ H0 (.Call (.Name x p) (e::es) [] pos) (U K (g d)):=by
 obtain ⟨t,h1,h2⟩:=ha
 refine bp (yq (E:=E0) (dvs:=[]) F hr hg hm hk hb .nil pass0 h1 hdb he hpl) fun H s Q k=>h2 H s _ fun vs H1 s1 q=>?_
 show spF K A pre U g (vs++[]) H1 Q E0
 rw [List.append_nil]
 exact ⟨d,hA vs H1 (s.trans s1) q,hp,fun v H' s' h=>k v H' (s1.trans s') h⟩
end
end
structure Walk (J:It)(H1:Hp)(n:Nat)(Y:Nat->VK):Prop where
 go:∀ H2,Same H1 H2->∀ i,i < n->J.go i H2
 yld:∀ H2,Same H1 H2->∀ i,i < n->∀ x H',J.yld i H2 x H'->Same H2 H'/\Y i x H'
 stop:∀ H2,Same H1 H2->J.stop n H2
def PIX (X:Cx)(σ:L2.St)(H0:Hp)(tg iter:Expr)(n:Nat)(Y:Nat->VK):Prop:=
 ∃ wi:TI,PI X tg iter wi/\∀ H,Same H0 H->∀ R:It->Hp->Prop,(∀ J H1,Same H H1->Walk J H1 n Y->R J H1)->wi σ H R
section
variable {X:Cx}{σ:L2.St}{H0:Hp}{tg iter a b c e elt:Expr}{es:List Expr}{pos p:Pos}{α β:Type}{R:Rp α}{S:Rp β}{K:PySem.W.Frag}
def yH (R:Rp α)(K:PySem.W.Frag)(as:List α):Nat->VK:=fun i v H=>∃ d,as[i]?=some d/\R K d v H
theorem zY [Mono R]{as:List α}{l:Addr}{xs:List V}{H1:Hp}(q:SqL K H1 l xs)(z:All R K H1 xs as):Walk (Itl K l) H1 as.length (yH R K as):=by
 have get:∀ i,i < as.length->∃ x,xs[i]?=some x:=fun i hi=>⟨_,List.getElem?_eq_getElem (by rw [z.length];exact hi)⟩
 refine ⟨fun H2 s2 i hi=>?_,fun H2 s2 i hi x H' y=>?_,fun H2 s2=>⟨xs,s2.seq q,Nat.le_of_eq z.length⟩⟩
 ·obtain ⟨x,hx⟩:=get i hi
  exact ⟨xs,x,s2.seq q,hx⟩
 ·obtain ⟨rfl,y⟩:=y
  obtain ⟨d,hd,r⟩:=(z.mono s2).getV (y xs (s2.seq q))
  exact ⟨bi _,d,hd,r⟩
theorem ab3 [Mono R]{as:List α}(h:PX X σ H0 iter (cL R X.K as)):PIX X σ H0 tg iter as.length (yH R X.K as):=
 ⟨_,tP ah,fun H s Q k=>h H s _ fun v H1 s1 ⟨l,xs,e,q,z⟩=>⟨l,e,⟨xs,q⟩,k _ H1 s1 (zY q z)⟩⟩
theorem xT [Mono R]{as:List α}(h:PX X σ H0 iter (cL R K as))(hK:X.K=K:=by rfl):PIX X σ H0 tg iter as.length (yH R K as):=by
 subst hK
 exact ab3 h
def oy (lo c:Int):Nat->VK:=fun i v _=>v=.int (lo+(i:Nat) * c)
theorem vg {lo c:Int}{n:Nat}{H1:Hp}:Walk (Itc lo c n) H1 n (oy lo c):=
 ⟨fun _ _ _ hi=>hi,fun H2 _ i _ x H' ⟨e,y⟩=>⟨by rw [e];exact bi _,y⟩,fun _ _=>Nat.le_refl _⟩
theorem pB {i j d:Int}{n:Nat}(h:PX X σ H0 a (cI K i))(h':PX X σ H0 b (cI K j))(h2:PX X σ H0 c (cI K d))(hn:RgC i j d n)(hm:X.mg "range"=none)(hg:Gl X "range":=by rfl)
  (hs:starEach [a,b,c] X.env=(false,eval a X.env)::starEach [b,c] X.env:=by rfl)(hs1:starEach [b,c] X.env=(false,eval b X.env)::starEach [c] X.env:=by rfl)(hs2:starEach [c] X.env=(false,eval c X.env)::starEach [] X.env:=by rfl)
  (hpl:(backTo pos (starEach [b,c] X.env)).any (·.1)=false:=by rfl):PIX X σ H0 tg (.Call (.Name "range" p) [a,b,c] [] pos) n (oy i d):=
 ⟨_,ss hg hm (aq ah (aq ah (aq ah be hs2) hs1) hs) hs hpl,fun H s Q k=>h H s _ fun v H1 s1 e=>h' H1 (s.trans s1) _ fun w H2 s2 e'=>h2 H2 (s.trans (s1.trans s2)) _ fun x H3 s3 e2=>
  ⟨i,j,d,n,by rw [show v=.int i from e,show w=.int j from e',show x=.int d from e2],hn,k _ H3 (s1.trans (s2.trans s3)) vg⟩⟩
def PB (X:Cx)(scope:Scope)(σ:L2.St)(H:Hp)(e:Expr)(P:VK):Prop:=∀ (s:Shared) (H':Hp) (C:Addr) (cl:List (Str×Addr)) (fp:List Addr),PX (X.blk s H' scope (compEnvC scope cl C X.env) fp) σ H e P
theorem yJ {wi:TI}{g:TG}{n:Nat}{Y:Nat->VK}{vs:List Nat}{te:TE}{S:Rp β}[Mono S][Frz S]{gs:Nat->β}{Q:VK}{H:Hp}(s:Same H0 H)
  (hw:∀ H,Same H0 H->∀ R:It->Hp->Prop,(∀ J H1,Same H H1->Walk J H1 n Y->R J H1)->wi σ H R)(hn:n < sizeLine)
  (hel:∀ i,i < n->∀ x H,Same H0 H->Y i x H->∃ σ2,(∀ Q:L2.St->Hp->Prop,Q σ2 H->g x (wipe σ vs) H Q)/\wipe σ2 vs=wipe σ vs/\∀ H1,Same H H1->∀ Q:VK,(∀ v H',Same H1 H'->S K (gs i) v H'->Q v H')->te σ2 H1 Q)
  (k:∀ v H',Same H H'->cF H0 S K ((List.range n).map gs) v H'->Q v H'):tLc wi g w6 te vs σ H Q:=by
 refine hw H s _ fun J H1 s1 W D hD=>?_
 refine ⟨fun i m H'=>m=n - i/\i<=n/\Same H1 H'/\∃ acc,H' D=some (.lst acc)/\All S K H' acc ((List.range i).map gs),⟨n,by simp,Nat.zero_le _,a8 hD,[],aj,.nil⟩,?_⟩
 rintro i m H2 ⟨rfl,hi,s2,acc,hacc,hall⟩
 by_cases hlt:i < n
 ·refine .inr ⟨W.go H2 s2 i hlt,fun H'=>i+1<=n/\Same H1 H'/\∃ acc,H' D=some (.lst acc)/\All S K H' acc ((List.range (i+1)).map gs),fun H' h'=>⟨n - (i+1),by omega,rfl,h'⟩,fun x H3 y=>?_⟩
  obtain ⟨s3,hy⟩:=W.yld H2 s2 i hlt x H3 y
  obtain ⟨σ2,hg,hwipe,he⟩:=hel i hlt x H3 (s.trans (s1.trans (s2.trans s3))) hy
  refine hg _ ⟨hwipe,?_⟩
  unfold w6
  refine aeC ?_
  refine he H3 (bi H3) _ fun v H4 s4 hv=>⟨acc,s4 _ _ (s3 _ _ hacc),?_,hlt,bK (s2.trans (s3.trans s4)) hD,acc++[v],aj,?_⟩
  ·have:=hall.length
   rw [List.length_map,List.length_range] at this
   omega
  ·have h4:H4 D=some (.lst acc):=s4 _ _ (s3 _ _ hacc)
   rw [List.range_succ,List.map_append]
   exact ((hall.mono (s3.trans s4)).put h4).append (.cons (Frz.frz h4 hv) .nil)
 ·have e:i=n:=by omega
  subst e
  exact .inl ⟨W.stop H2 s2,k _ H2 (s1.trans s2) ⟨D,acc,rfl,(s.trans s1).free hD,hacc,hall⟩⟩
theorem abv {g:TG}{n:Nat}{Y:Nat->VK}{scope:Scope}{own:List (Str×Nat)}{S:Rp β}[Mono S][Frz S](gs:Nat->β)(hc:X.calm=true)(hN:X.N.Nodup)(hi:PIX X σ H0 tg iter n Y)(ok:m4 X.N X.env.scope scope own)
  (hg:∀ (s:Shared) (H:Hp) (C:Addr) (cl:List (Str×Addr)) (fp:List Addr),PG (X.blk s H scope (compEnvC scope cl C X.env) fp) tg g)(hn:n < sizeLine)
  (hel:∀ i,i < n->∀ x H,Same H0 H->Y i x H->∃ σ2,(∀ Q:L2.St->Hp->Prop,Q σ2 H->g x (wipe σ (own.map (·.2))) H Q)/\wipe σ2 (own.map (·.2))=wipe σ (own.map (·.2))/\PB X scope σ2 H elt (S K (gs i)))
  (hs:∀ x,foldedSetIterable iter X.env x=pure x:=by intro _;rfl):PX X σ H0 (.ListComp elt [⟨tg,iter,[],0⟩] scope pos) (cF H0 S K ((List.range n).map gs)):=by
 obtain ⟨wi,h1,h2⟩:=hi
 refine bp (adC (te:=fun σ H Q=>∀ (s:Shared) (H':Hp) (C:Addr) (cl:List (Str×Addr)) (fp:List Addr),EX (X.blk s H' scope (compEnvC scope cl C X.env) fp) elt σ H Q) hc hN h1 ok hg (fun _ _ _ _ _=>oP) (fun s H C cl fp=>fun pins s' σ H' Q I h=>h s H C cl fp pins s' I) hs)
  fun H s Q k=>yJ s h2 hn (fun i hi x H' s' y=>?_) k
 obtain ⟨σ2,q1,q2,q3⟩:=hel i hi x H' s' y
 exact ⟨σ2,q1,q2,fun H1 s1 Q kq s0 H0' C cl fp=>q3 s0 H0' C cl fp H1 s1 Q kq⟩
end
end Bq
set_option maxHeartbeats 2000000
namespace Bq
open PySem PyProof.Rows
def bO:Bool->Heap->Addr->Addr->Nat->Prop
 | true,h,it,l,i=>h.IsListIter it l i
 | false,h,it,l,i=>h.IsTupleIter it l i
def eV:Bool->Heap->Addr->Array Value->Prop
 | true,h,l,xs=>h.IsList l xs
 | false,h,l,xs=>h.IsTuple l xs
def wf:Bool->Addr->Obj
 | true,l=>{cls:=.type "list_iterator",data:=.fields #[.ref l,.int 0 0]}
 | false,l=>{cls:=.type "tuple_iterator",data:=.fields #[.ref l,.int 0 0]}
theorem bO.eb {k:Bool}{h h':Heap}{a b t:Addr}{i:Nat}(x:bO k h a t i)(hs:Heap.ExtBut b h h')(n:a≠b):bO k h' a t i:=by
 cases k
 ·exact Heap.IsTupleIter.extBut x hs n
 ·exact Heap.IsListIter.extBut x hs n
theorem eV.eb {k:Bool}{h h':Heap}{a b:Addr}{xs:Array Value}(x:eV k h a xs)(hs:Heap.ExtBut b h h')(n:a≠b):eV k h' a xs:=by
 cases k
 ·exact Heap.IsTuple.extBut x hs n
 ·exact Heap.IsList.extBut x hs n
theorem eV.more {k:Bool}{h:Heap}{a:Addr}{xs:Array Value}(x:eV k h a xs)(o:Obj):eV k (h.push o) a xs:=by
 cases k
 ·exact Heap.IsTuple.push x o
 ·exact Heap.IsList.push x o
theorem bO.put {k:Bool}{h h':Heap}{a t:Addr}{i:Nat}(x:bO k h a t i)(e:∀ o,h.get? a=some o->h'.get? a=some o):bO k h' a t i:=by
 cases k
 ·exact Heap.IsTupleIter.at x e
 ·exact Heap.IsListIter.at x e
theorem bO.obj {k:Bool}{h:Heap}{a t:Addr}{i:Nat}(x:bO k h a t i):∃ o,h.get? a=some o/\∀ v,o.data≠.cell v:=by
 cases k
 ·obtain ⟨o,e,_,d⟩:=x
  exact ⟨o,e,fun v q=>by rw [d] at q;cases q⟩
 ·obtain ⟨o,e,_,d⟩:=x
  exact ⟨o,e,fun v q=>by rw [d] at q;cases q⟩
theorem eV.lt {k:Bool}{h:Heap}{a:Addr}{xs:Array Value}(x:eV k h a xs):a < h.objs.size:=by
 cases k
 ·obtain ⟨o,e,_⟩:=x
  exact Heap.lt_size e
 ·obtain ⟨o,e,_⟩:=x
  exact Heap.lt_size e
section
variable {prog:Program}{w:World}{A:Around}{E:Value->Shared->Prop}{s:Shared}
theorem xE {it t:Addr}{j:Nat}{its:Array Value}{y:Value}{Q:Value->Shared->Prop}(g:s.heap.IsTupleIter it t j)(gt:s.heap.IsTuple t its)(gy:its[j]?=some y)
  (q:∀ h1,h1.IsTupleIter it t (j+1)->Heap.SameBut it s.heap h1->Q y {s with heap:=h1}):wpAny (model prog w) A (Builtin.SmallTypes.nextOf (.ref it)) Q E s:=by
 obtain ⟨ob,e1,e2,e3⟩:=id g;obtain ⟨ot,f1,_,nt,f2⟩:=gt
 unfold Builtin.SmallTypes.nextOf
 refine wpAny_bind (wpAny_callSpecial?_slot (name:=Str.ofString "__next__") g.typeIs F.slot_tuple_iterator_next (wpAny_call_entry F.slot_tuple_iterator_next g.typeIs F.entry_tuple_iterator_next ?_ (F.args_tuple_iterator_next_1 _)))
 show wpAny _ _ (field (.ref it) 0 >>= _) _ _ s;refine wpAny_bind (wpAny_field e1 e3 (x:=.ref t) rfl ?_)
 show wpAny _ _ (if (Value.ref t == Value.none)=true then _ else _) _ _ s;rw [if_neg (show ¬ ((Value.ref t == Value.none)=true) from Bool.false_ne_true)]
 show wpAny _ _ (field (.ref it) 1 >>= _) _ _ s;refine wpAny_bind (wpAny_field e1 e3 (x:=.int j 0) rfl ?_)
 show wpAny _ _ (seqItems? (.ref t) >>= _) _ _ s;refine wpAny_bind (wpAny_seqItems f1 f2 ?_)
 simp only [Int.toNat_natCast,gy];refine wpAny_bind (wpAny_setField e1 e3 (by simp) (wpAny_pure ⟨y,rfl,wpAny_pure (q _ ?_ (Heap.SameBut.update ..))⟩))
 refine ⟨_,Heap.get?_update_self _ e1 (Obj.isFreed_of_fields (Obj.data_mapFields e3 _)),(Obj.cls_mapFields ..).trans e2,?_⟩
 rw [Obj.data_mapFields e3];simp [rawInt]
theorem rm {it t:Addr}{j:Nat}{its:Array Value}{Q:Value->Shared->Prop}(hh:A.handled=none)(g:s.heap.IsTupleIter it t j)(gt:s.heap.IsTuple t its)(gy:its[j]?=none)
  (q:∀ h1 e,Heap.ExtBut it s.heap h1->(∃ o,h1.get? e=some o/\o.cls=.type "StopIteration")->E (.ref e) {s with heap:=h1}):wpAny (model prog w) A (Builtin.SmallTypes.nextOf (.ref it)) Q E s:=by
 obtain ⟨ob,e1,e2,e3⟩:=id g;obtain ⟨ot,f1,_,nt,f2⟩:=gt
 unfold Builtin.SmallTypes.nextOf
 refine wpAny_bind (wpAny_callSpecial?_slot (name:=Str.ofString "__next__") g.typeIs F.slot_tuple_iterator_next (wpAny_call_entry F.slot_tuple_iterator_next g.typeIs F.entry_tuple_iterator_next ?_ (F.args_tuple_iterator_next_1 _)))
 show wpAny _ _ (field (.ref it) 0 >>= _) _ _ s;refine wpAny_bind (wpAny_field e1 e3 (x:=.ref t) rfl ?_)
 show wpAny _ _ (if (Value.ref t == Value.none)=true then _ else _) _ _ s;rw [if_neg (show ¬ ((Value.ref t == Value.none)=true) from Bool.false_ne_true)]
 show wpAny _ _ (field (.ref it) 1 >>= _) _ _ s;refine wpAny_bind (wpAny_field e1 e3 (x:=.int j 0) rfl ?_)
 show wpAny _ _ (seqItems? (.ref t) >>= _) _ _ s;refine wpAny_bind (wpAny_seqItems f1 f2 ?_)
 simp only [Int.toNat_natCast,gy];refine wpAny_bind (wpAny_rule (wpAny_bind (wpAny_setField e1 e3 (by simp) ?_)))
 show wpAny _ _ (newExc (.type "StopIteration") [] >>= _) _ _ _;refine wpAny_bind ?_
 simp only [newExc,newTuple];refine wpAny_bind (wpAny_newObj_type ?_ (by size_fits))
 refine wpAny_bind (m:=firstArgMember _ _) (wpAny_of_eq (a:=Value.none) (by first | rfl | (simp only [firstArgMember];rfl)) ?_);refine wpAny_newObj_type ?_ (by size_fits)
 simp only [raiseNew];refine wpAny_bind (wpAny_handled ?_)
 (first | rw [show A.in1.handled=none from hh] | rw [hh]);refine wpAny_bind (wpAny_pure (wpAny_throw ?_))
 exact q _ _ (((Heap.SameBut.update ..).extBut.push _).push _) ⟨_,Heap.get?_push_size _ rfl,rfl⟩
theorem aa5 {k:Bool}{it l:Addr}{j:Nat}{its:Array Value}{y:Value}{Q:Value->Shared->Prop}(g:bO k s.heap it l j)(gl:eV k s.heap l its)(gy:its[j]?=some y)
  (q:∀ h1,bO k h1 it l (j+1)->Heap.SameBut it s.heap h1->Q y {s with heap:=h1}):wpAny (model prog w) A (Builtin.SmallTypes.nextOf (.ref it)) Q E s:=by
 cases k
 ·exact xE g gl gy q
 ·exact wpAny_nextOf_list_item g gl gy q
theorem wk {k:Bool}{it l:Addr}{j:Nat}{its:Array Value}{Q:Value->Shared->Prop}(hh:A.handled=none)(g:bO k s.heap it l j)(gl:eV k s.heap l its)(gy:its[j]?=none)
  (q:∀ h1 e,Heap.ExtBut it s.heap h1->(∃ o,h1.get? e=some o/\o.cls=.type "StopIteration")->E (.ref e) {s with heap:=h1}):wpAny (model prog w) A (Builtin.SmallTypes.nextOf (.ref it)) Q E s:=by
 cases k
 ·exact rm hh g gl gy q
 ·exact wpAny_nextOf_list_end hh g gl gy q
theorem adD {k:Bool}{l:Addr}{its:Array Value}{Q:Value->Shared->Prop}(g:eV k s.heap l its)(q:Q (.ref s.heap.objs.size) {s with heap:=s.heap.push (wf k l)}):wpAny (model prog w) A (pyIter (.ref l)) Q E s:=by
 cases k
 ·exact wpAny_pyIter_tuple g q
 ·exact wpAny_pyIter_list g q
end
section
variable {prog:Program}{w:World}{A:Around}{E:Value->Shared->Prop}{s:Shared}{kl kr:Bool}{z TI TO i1 i2 l1 l2:Addr}{j1 j2:Nat}{xs ys:Array Value}
theorem yW {x y a b:Value}{Q:Value->Shared->Prop}(D:ZipApart z TI TO i1 i2 l1 l2)(hz:IsZip s.heap z TI TO .none)(hT:IsPair s.heap TI (.ref i1) (.ref i2))(hO:IsPair s.heap TO a b)
  (g1:bO kl s.heap i1 l1 j1)(g2:bO kr s.heap i2 l2 j2)(d1:eV kl s.heap l1 xs)(d2:eV kr s.heap l2 ys)(hx:xs[j1]?=some x)(hy:ys[j2]?=some y)
  (q:∀ h1,IsZip h1 z TI TO (rawInt s.heap.objs.size)->IsPair h1 TO x y->bO kl h1 i1 l1 (j1+1)->bO kr h1 i2 l2 (j2+1)->IsPair h1 s.heap.objs.size x y->h1.objs.size=s.heap.objs.size+1->
   (∀ c o,c≠z->c≠TO->c≠i1->c≠i2->s.heap.get? c=some o->h1.get? c=some o)->Q (.ref s.heap.objs.size) {s with heap:=h1}):
  wpAny (model prog w) A (Builtin.«zip.__next__» ⟨[.ref z],[]⟩) (fun fin s'=>∃ v,fin=.done (.ret v)/\Q v s') E s:=by
 show wpAny _ _ (field (.ref z) 2 >>= _) _ _ _;refine wpAny_bind (wpAny_field hz rfl (x:=.bool false) rfl ?_)
 show wpAny _ _ (field (.ref z) 3 >>= _) _ _ _;refine wpAny_bind (wpAny_field hz rfl (x:=.ref TI) rfl ?_)
 refine wpAny_bind (wpAny_seqItems hT rfl ?_)
 show wpAny _ _ (Builtin.SmallTypes.ownedTupleIsFree (.ref z) >>= _) _ _ _;refine wpAny_bind ?_
 unfold Builtin.SmallTypes.ownedTupleIsFree
 refine wpAny_bind (wpAny_field hz rfl (x:=.none) rfl (wpAny_pure ?_));simp only [if_true]
 refine wpAny_bind (wpAny_rule ?_);refine wpAny_bind (wpAny_field hz rfl (x:=.ref TO) rfl ?_)
 refine wpAny_bind (wpAny_setField_rec hz (by simp) fun ha za sa=>?_);replace za:IsZip ha z TI TO .ellipsis:=za
 refine wpAny_bind ?_;simp only [List.zipIdx_cons,List.zipIdx_nil,List.forIn_cons,List.forIn_nil]
 refine wpAny_bind (wpAny_bind (wpAny_onRaise ?_));show wpAny _ _ (Builtin.SmallTypes.nextOf (.ref i1) >>= _) _ _ _
 refine wpAny_bind (aa5 (g1.eb sa.extBut D.i1z) (d1.eb sa.extBut D.l1z) hx fun hb gb sb=>wpAny_pure ?_)
 have Ob:IsPair hb TO a b:=sb.extBut _ _ D.TOi1 (sa.extBut _ _ D.TOz hO)
 refine wpAny_bind (wpAny_seqItems Ob rfl ?_);refine wpAny_bind (wpAny_updateSeq_pair Ob fun hc Oc sc=>?_);replace Oc:IsPair hc TO x b:=Oc
 refine wpAny_bind (wpAny_letGo (wpAny_pure ?_));refine wpAny_bind (wpAny_bind (wpAny_onRaise ?_));show wpAny _ _ (Builtin.SmallTypes.nextOf (.ref i2) >>= _) _ _ _
 refine wpAny_bind (aa5 (((g2.eb sa.extBut D.i2z).eb sb.extBut D.i12.symm).eb sc.extBut D.TOi2.symm) (((d2.eb sa.extBut D.l2z).eb sb.extBut D.l2i1).eb sc.extBut D.l2TO) hy fun hd gd sd=>wpAny_pure ?_)
 have Od:IsPair hd TO x b:=sd.extBut _ _ D.TOi2 Oc
 refine wpAny_bind (wpAny_seqItems Od rfl ?_);refine wpAny_bind (wpAny_updateSeq_pair Od fun he Oe se=>?_);replace Oe:IsPair he TO x y:=Oe
 refine wpAny_bind (wpAny_letGo (wpAny_pure (wpAny_pure ?_)));refine wpAny_bind (wpAny_seqItems Oe rfl ?_);refine wpAny_bind (wpAny_newTuple ?_)
 have hsz:he.objs.size=s.heap.objs.size:=by rw [se.1,sd.1,sc.1,sb.1,sa.1]
 have ze:IsZip he z TI TO .ellipsis:=se.extBut _ _ D.TOz.symm (sd.extBut _ _ D.i2z.symm (sc.extBut _ _ D.TOz.symm (sb.extBut _ _ D.i1z.symm za)))
 have ke:∀ c o,c≠z->c≠TO->c≠i1->c≠i2->s.heap.get? c=some o->he.get? c=some o:=fun c o c1 c2 c3 c4 r=>se.extBut _ _ c2 (sd.extBut _ _ c4 (sc.extBut _ _ c2 (sb.extBut _ _ c3 (sa.extBut _ _ c1 r))))
 have g1e:bO kl he i1 l1 (j1+1):=((gb.eb sc.extBut D.TOi1.symm).eb sd.extBut D.i12).eb se.extBut D.TOi1.symm
 have g2e:bO kr he i2 l2 (j2+1):=gd.eb se.extBut D.TOi2.symm
 have zlt:z < he.objs.size:=Heap.lt_size ze
 show wpAny _ _ (Builtin.SmallTypes.ownedTupleHandOut (.ref z) (.ref he.objs.size) >>= _) _ _ _;refine wpAny_bind ?_
 unfold Builtin.SmallTypes.ownedTupleHandOut
 have zf:IsZip (he.push {cls:=.type "tuple",data:=.seq #[x,y]}) z TI TO .ellipsis:=Heap.get?_push_of_some _ ze
 refine wpAny_bind (wpAny_setField_rec zf (by simp) fun hg zg sg=>?_);replace zg:IsZip hg z TI TO (rawInt he.objs.size):=zg
 refine wpAny_setField_rec zg (by simp) fun hh zh sh=>?_;replace zh:IsZip hh z TI TO (rawInt he.objs.size):=zh
 have up:∀ c o,c≠z->he.get? c=some o->hh.get? c=some o:=fun c o c1 r=>sh.extBut _ _ c1 (sg.extBut _ _ c1 (Heap.get?_push_of_some _ r))
 have Th:IsPair hh he.objs.size x y:=sh.extBut _ _ (Nat.ne_of_gt zlt) (sg.extBut _ _ (Nat.ne_of_gt zlt) (Heap.get?_push_size _ rfl))
 have szh:hh.objs.size=he.objs.size+1:=by rw [sh.1,sg.1,Heap.size_push]
 rw [hsz] at zh Th szh;refine wpAny_pure ⟨_,rfl,?_⟩;show Q (.ref he.objs.size) _;rw [hsz]
 exact q hh zh (up _ _ D.TOz Oe) (g1e.put fun o r=>up _ o D.i1z r) (g2e.put fun o r=>up _ o D.i2z r) Th szh fun c o c1 c2 c3 c4 r=>up c o c1 (ke c o c1 c2 c3 c4 r)
theorem aaZ {a b:Value}{Q:Fin->Shared->Prop}(hh:A.handled=none)(D:ZipApart z TI TO i1 i2 l1 l2)(hz:IsZip s.heap z TI TO .none)(hT:IsPair s.heap TI (.ref i1) (.ref i2))(hO:IsPair s.heap TO a b)
  (g1:bO kl s.heap i1 l1 j1)(g2:bO kr s.heap i2 l2 j2)(d1:eV kl s.heap l1 xs)(d2:eV kr s.heap l2 ys)(hend:xs[j1]?=none\/ys[j2]?=none)
  (q:∀ h1 e,(∀ c o,c≠z->c≠TO->c≠i1->c≠i2->s.heap.get? c=some o->h1.get? c=some o)->(∃ o,h1.get? e=some o/\o.cls=.type "StopIteration")->E (.ref e) {s with heap:=h1}):
  wpAny (model prog w) A (Builtin.«zip.__next__» ⟨[.ref z],[]⟩) Q E s:=by
 show wpAny _ _ (field (.ref z) 2 >>= _) _ _ _;refine wpAny_bind (wpAny_field hz rfl (x:=.bool false) rfl ?_)
 show wpAny _ _ (field (.ref z) 3 >>= _) _ _ _;refine wpAny_bind (wpAny_field hz rfl (x:=.ref TI) rfl ?_)
 refine wpAny_bind (wpAny_seqItems hT rfl ?_)
 show wpAny _ _ (Builtin.SmallTypes.ownedTupleIsFree (.ref z) >>= _) _ _ _;refine wpAny_bind ?_
 unfold Builtin.SmallTypes.ownedTupleIsFree
 refine wpAny_bind (wpAny_field hz rfl (x:=.none) rfl (wpAny_pure ?_));simp only [if_true]
 refine wpAny_bind (wpAny_rule ?_);refine wpAny_bind (wpAny_field hz rfl (x:=.ref TO) rfl ?_)
 refine wpAny_bind (wpAny_setField_rec hz (by simp) fun ha za sa=>?_);replace za:IsZip ha z TI TO .ellipsis:=za
 refine wpAny_bind ?_;simp only [List.zipIdx_cons,List.zipIdx_nil,List.forIn_cons,List.forIn_nil]
 refine wpAny_bind (wpAny_bind (wpAny_onRaise ?_));show wpAny _ _ (Builtin.SmallTypes.nextOf (.ref i1) >>= _) _ _ _
 cases hx:xs[j1]? with
 | none=>
  refine wpAny_bind (wk hh (g1.eb sa.extBut D.i1z) (d1.eb sa.extBut D.l1z) hx fun hb e sb he=>?_)
  obtain ⟨oe,hoe,hce⟩:=he;have zb:IsZip hb z TI TO .ellipsis:=sb _ _ D.i1z.symm za
  have hez:e≠z:=fun r=>by subst r;rw [zb] at hoe;cases hoe;simp at hce
  refine wpAny_setField_rec zb (by simp) fun hc _ sc=>q hc e (fun c o c1 _ c3 _ r=>sc.extBut _ _ c1 (sb _ _ c3 (sa.extBut _ _ c1 r))) ⟨oe,sc.extBut _ _ hez hoe,hce⟩
 | some x=>
  have hy:ys[j2]?=none:=by rcases hend with h | h;rw [hx] at h;cases h;exact h
  refine wpAny_bind (aa5 (g1.eb sa.extBut D.i1z) (d1.eb sa.extBut D.l1z) hx fun hb gb sb=>wpAny_pure ?_)
  have Ob:IsPair hb TO a b:=sb.extBut _ _ D.TOi1 (sa.extBut _ _ D.TOz hO)
  refine wpAny_bind (wpAny_seqItems Ob rfl ?_);refine wpAny_bind (wpAny_updateSeq_pair Ob fun hc Oc sc=>?_)
  refine wpAny_bind (wpAny_letGo (wpAny_pure ?_));refine wpAny_bind (wpAny_bind (wpAny_onRaise ?_));show wpAny _ _ (Builtin.SmallTypes.nextOf (.ref i2) >>= _) _ _ _
  refine wpAny_bind (wk hh (((g2.eb sa.extBut D.i2z).eb sb.extBut D.i12.symm).eb sc.extBut D.TOi2.symm) (((d2.eb sa.extBut D.l2z).eb sb.extBut D.l2i1).eb sc.extBut D.l2TO) hy fun hd e sd he=>?_)
  obtain ⟨oe,hoe,hce⟩:=he;have zd:IsZip hd z TI TO .ellipsis:=sd _ _ D.i2z.symm (sc.extBut _ _ D.TOz.symm (sb.extBut _ _ D.i1z.symm za))
  have hez:e≠z:=fun r=>by subst r;rw [zd] at hoe;cases hoe;simp at hce
  refine wpAny_setField_rec zd (by simp) fun hf _ sf=>q hf e (fun c o c1 c2 c3 c4 r=>sf.extBut _ _ c1 (sd _ _ c4 (sc.extBut _ _ c2 (sb.extBut _ _ c3 (sa.extBut _ _ c1 r))))) ⟨oe,sf.extBut _ _ hez hoe,hce⟩
theorem vT {x y a b:Value}{Q:Option Value->Shared->Prop}(D:ZipApart z TI TO i1 i2 l1 l2)(hz:IsZip s.heap z TI TO .none)(hT:IsPair s.heap TI (.ref i1) (.ref i2))(hO:IsPair s.heap TO a b)
  (g1:bO kl s.heap i1 l1 j1)(g2:bO kr s.heap i2 l2 j2)(d1:eV kl s.heap l1 xs)(d2:eV kr s.heap l2 ys)(hx:xs[j1]?=some x)(hy:ys[j2]?=some y)
  (q:∀ h1,IsZip h1 z TI TO (rawInt s.heap.objs.size)->IsPair h1 TO x y->bO kl h1 i1 l1 (j1+1)->bO kr h1 i2 l2 (j2+1)->IsPair h1 s.heap.objs.size x y->h1.objs.size=s.heap.objs.size+1->
   (∀ c o,c≠z->c≠TO->c≠i1->c≠i2->s.heap.get? c=some o->h1.get? c=some o)->Q (some (.ref s.heap.objs.size)) {s with heap:=h1}):wpAny (model prog w) A (pyNext (.ref z)) Q E s:=by
 have ty:s.TypeIs (.ref z) "zip":=⟨_,hz,rfl⟩;unfold pyNext
 exact wpAny_bind (wpAny_attempt (wpAny_callSpecial?_slot (name:=Str.ofString "__next__") ty F.slot_zip_next (wpAny_call_entry F.slot_zip_next ty F.entry_zip_next
  (yW D hz hT hO g1 g2 d1 d2 hx hy fun h1 r1 r2 r3 r4 r5 r6 r7=>wpAny_pure (q h1 r1 r2 r3 r4 r5 r6 r7)) (F.args_zip_next_1 _))))
theorem qf {a b:Value}{Q:Option Value->Shared->Prop}(hh:A.handled=none)(D:ZipApart z TI TO i1 i2 l1 l2)(hz:IsZip s.heap z TI TO .none)(hT:IsPair s.heap TI (.ref i1) (.ref i2))(hO:IsPair s.heap TO a b)
  (g1:bO kl s.heap i1 l1 j1)(g2:bO kr s.heap i2 l2 j2)(d1:eV kl s.heap l1 xs)(d2:eV kr s.heap l2 ys)(hend:xs[j1]?=none\/ys[j2]?=none)
  (q:∀ h1,(∀ c o,c≠z->c≠TO->c≠i1->c≠i2->s.heap.get? c=some o->h1.get? c=some o)->Q none {s with heap:=h1}):wpAny (model prog w) A (pyNext (.ref z)) Q E s:=by
 have ty:s.TypeIs (.ref z) "zip":=⟨_,hz,rfl⟩;unfold pyNext
 refine wpAny_bind (wpAny_attempt (wpAny_callSpecial?_slot (name:=Str.ofString "__next__") ty F.slot_zip_next (wpAny_call_entry F.slot_zip_next ty F.entry_zip_next (aaZ hh D hz hT hO g1 g2 d1 d2 hend fun h1 e hk he=>?_) (F.args_zip_next_1 _))))
 obtain ⟨o,ho,hc⟩:=he;refine wpAny_bind (wpAny_isInstance (T:="StopIteration") (b:=true) ⟨o,ho,hc⟩ isSubtype_stop ?_);exact wpAny_pure (q _ hk)
end
abbrev zk1 (k:Bool)(h:Heap)(l1:Addr):Heap:=h.push (wf k l1)
abbrev zk2 (k k':Bool)(h:Heap)(l1 l2:Addr):Heap:=(zk1 k h l1).push (wf k' l2)
abbrev zk3 (k k':Bool)(h:Heap)(l1 l2:Addr):Heap:=(zk2 k k' h l1 l2).push {cls:=.type "tuple",data:=.seq #[.ref h.objs.size,.ref (zk1 k h l1).objs.size]}
abbrev zk4 (k k':Bool)(h:Heap)(l1 l2:Addr):Heap:=(zk3 k k' h l1 l2).push {cls:=.type "tuple",data:=.seq #[.none,.none]}
abbrev zk5 (k k':Bool)(h:Heap)(l1 l2:Addr):Heap:=(zk4 k k' h l1 l2).push {cls:=.type "zip",data:=.fields #[.none,.bool false,.bool false,.ref (zk2 k k' h l1 l2).objs.size,.ref (zk3 k k' h l1 l2).objs.size]}
theorem xj (k k':Bool)(l1 l2:Addr)(xs ys:Array Value):Meets (Builtin.«zip.__new__» ⟨[.type "zip",.ref l1,.ref l2],[]⟩) (fun _ R s=>eV k s.heap l1 xs/\eV k' s.heap l2 ys/\
   R (.ok (.ret (.ref (zk4 k k' s.heap l1 l2).objs.size))) {s with heap:=zk5 k k' s.heap l1 l2}):=
 .of_wp fun prog w A R s h=>by
  obtain ⟨hp,g,d,tk,os⟩:=s;obtain ⟨d1,d2,h⟩:=h;have hsub:=sub_zip
  have e1:eV k (Shared.heap ⟨hp,g,d,tk,os⟩) l1 xs:=d1
  have e2:eV k' (Shared.heap ⟨hp.push (wf k l1),g,d,tk,os⟩) l2 ys:=eV.more d2 _
  wp_walk using adD e1,adD e2
  exact ⟨_,rfl,h⟩
section
variable {prog:Program}{w:World}{A:Around}{E:Value->Shared->Prop}{s:Shared}{kl kr:Bool}{l1 l2:Addr}{xs ys:Array Value}
theorem sH {k:Bool}{h:Heap}{a l:Addr}(e:h.get? a=some (wf k l)):bO k h a l 0:=by
 cases k
 ·exact ⟨_,e,rfl,rfl⟩
 ·exact ⟨_,e,rfl,rfl⟩
theorem zw {Q:Value->Shared->Prop}(d1:eV kl s.heap l1 xs)(d2:eV kr s.heap l2 ys)
  (h:∀ h1,IsZip h1 (s.heap.objs.size+4) (s.heap.objs.size+2) (s.heap.objs.size+3) .none->IsPair h1 (s.heap.objs.size+2) (.ref s.heap.objs.size) (.ref (s.heap.objs.size+1))->IsPair h1 (s.heap.objs.size+3) .none .none->
   bO kl h1 s.heap.objs.size l1 0->bO kr h1 (s.heap.objs.size+1) l2 0->(∀ c o,s.heap.get? c=some o->h1.get? c=some o)->Q (.ref (s.heap.objs.size+4)) {s with heap:=h1}):
  wpAny (model prog w) A (call (.type "zip") [.ref l1,.ref l2]) Q E s:=by
 refine callType_new F.called_zip (by decide) (F.typeCall_zip_2 _ _) (F.newCall_zip_2 _ _) (fun obj=>F.args_object_init_3 obj _ _) F.entry_zip_new (xj kl kr l1 l2 xs ys) ⟨d1,d2,?_⟩
 have f1:∀ k:Bool,∀ l:Addr,(wf k l).isFreed=false:=fun k l=>by cases k<;>rfl
 have z1:(zk1 kl s.heap l1).objs.size=s.heap.objs.size+1:=Heap.size_push ..
 have z2:(zk2 kl kr s.heap l1 l2).objs.size=s.heap.objs.size+2:=by rw [Heap.size_push,z1]
 have z3:(zk3 kl kr s.heap l1 l2).objs.size=s.heap.objs.size+3:=by rw [Heap.size_push,z2]
 have z4:(zk4 kl kr s.heap l1 l2).objs.size=s.heap.objs.size+4:=by rw [Heap.size_push,z3]
 have g5:(zk5 kl kr s.heap l1 l2).get? (zk4 kl kr s.heap l1 l2).objs.size=some _:=Heap.get?_push_size _ rfl
 have g4:(zk5 kl kr s.heap l1 l2).get? (zk3 kl kr s.heap l1 l2).objs.size=some _:=Heap.get?_push_of_some _ (Heap.get?_push_size _ rfl)
 have g3:(zk5 kl kr s.heap l1 l2).get? (zk2 kl kr s.heap l1 l2).objs.size=some _:=Heap.get?_push_of_some _ (Heap.get?_push_of_some _ (Heap.get?_push_size _ rfl))
 have g2:(zk5 kl kr s.heap l1 l2).get? (zk1 kl s.heap l1).objs.size=some (wf kr l2):=Heap.get?_push_of_some _ (Heap.get?_push_of_some _ (Heap.get?_push_of_some _ (Heap.get?_push_size _ (f1 kr l2))))
 have g1:(zk5 kl kr s.heap l1 l2).get? s.heap.objs.size=some (wf kl l1):=Heap.get?_push_of_some _ (Heap.get?_push_of_some _ (Heap.get?_push_of_some _ (Heap.get?_push_of_some _ (Heap.get?_push_size _ (f1 kl l1)))))
 show _/\_
 rw [z2,z3,z4] at g5;rw [z1,z2] at g3;rw [z3] at g4;rw [z1] at g2;rw [z4]
 exact ⟨⟨_,g5,rfl⟩,h _ g5 g3 g4 (sH g1) (sH g2) fun c o r=>Heap.get?_push_of_some _ (Heap.get?_push_of_some _ (Heap.get?_push_of_some _ (Heap.get?_push_of_some _ (Heap.get?_push_of_some _ r))))⟩
end
end Bq
namespace Bq
open PySem PySem.Spec PyProof.Rows L2
def SqK:Bool->PySem.W.Frag->Hp->Addr->List V->Prop
 | true=>SqL
 | false=>SqT
theorem mt {k:Bool}{X:Cx}{pins:List (Addr×Obj)}{σ:L2.St}{H:Hp}{s:Shared}{a:Addr}{xs:List V}(I:Inv X pins σ H s)(h:SqK k X.K H a xs):∃ its:List Value,Vals xs its/\eV k s.heap a its.toArray:=by
 cases k
 ·obtain ⟨its,r,p,_⟩:=I.tuple h
  exact ⟨its,r,p⟩
 ·obtain ⟨its,r,p,_⟩:=I.list h
  exact ⟨its,r,p.isList⟩
theorem yB {k:Bool}{X:Cx}{pins:List (Addr×Obj)}{σ:L2.St}{H:Hp}{s:Shared}{a:Addr}{xs ys:List V}(I:Inv X pins σ H s)(h:SqK k X.K H a xs)(h':SqK k X.K H a ys):xs=ys:=by
 cases k
 ·exact I.tuple_inj h h'
 ·exact I.list_inj h h'
theorem d6 {k:Bool}{K:PySem.W.Frag}{H H':Hp}{a:Addr}{xs:List V}(s:Same H H')(h:SqK k K H a xs):SqK k K H' a xs:=by
 cases k
 ·exact mP s h
 ·exact s.seq h
def adk (K:PySem.W.Frag)(kl kr:Bool)(a b:Addr):It:=
 ⟨fun i H=>∃ (xs ys:List V) (x y:V),SqK kl K H a xs/\SqK kr K H b ys/\xs[i]?=some x/\ys[i]?=some y,
  fun i H v H'=>∃ T x y,v=.ref T/\H T=none/\H'=upd H T (.tup [x,y])/\(∀ xs,SqK kl K H a xs->xs[i]?=some x)/\∀ ys,SqK kr K H b ys->ys[i]?=some y,
  fun i H=>∃ xs ys:List V,SqK kl K H a xs/\SqK kr K H b ys/\(xs.length<=i\/ys.length<=i)⟩
theorem y1 {P:Program}{w:World}{K:PySem.W.Frag}{kl kr:Bool}{elts:List Expr}{kk:Nat}{tpos:Pos}{a b z TI TO i1 i2:Addr}(D:ZipApart z TI TO i1 i2 a b):
  Turn P w K (.Tuple elts kk tpos) (adk K kl kr a b) [z,TI,TO,i1,i2] z (fun i h=>IsZip h z TI TO .none/\IsPair h TI (.ref i1) (.ref i2)/\(∃ x y,IsPair h TO x y)/\bO kl h i1 a i/\bO kr h i2 b i) where
 mem:=by simp
 obj:=fun i h st c hc=>by
  obtain ⟨hz,hTI,⟨x,y,hTO⟩,g1,g2⟩:=st
  have e':c=z\/c=TI\/c=TO\/c=i1\/c=i2:=by simpa using hc
  rcases e' with q | q | q | q | q
  ·rw [q];exact ⟨_,hz,fun v q=>nomatch q⟩
  ·rw [q];exact ⟨_,hTI,fun v q=>nomatch q⟩
  ·rw [q];exact ⟨_,hTO,fun v q=>nomatch q⟩
  ·rw [q];exact g1.obj
  ·rw [q];exact g2.obj
 keep:=fun i h h' st k=>by
  obtain ⟨hz,hTI,⟨x,y,hTO⟩,g1,g2⟩:=st
  exact ⟨k z (by simp) _ hz,k TI (by simp) _ hTI,⟨x,y,k TO (by simp) _ hTO⟩,g1.put fun o q=>k i1 (by simp) o q,g2.put fun o q=>k i2 (by simp) o q⟩
 item:=by
  intro X hP hw hK hc i pins s σ H E I hf st hg
  subst hP hw hK
  obtain ⟨hz,hTI,⟨x0,y0,hTO⟩,g1,g2⟩:=st
  obtain ⟨xs,ys,x,y,qx,qy,hx,hy⟩:=hg
  obtain ⟨its,rv,p⟩:=mt I qx
  obtain ⟨its2,rv2,p2⟩:=mt I qy
  obtain ⟨u,hu,ru⟩:=rv.get hx
  obtain ⟨u2,hu2,ru2⟩:=rv2.get hy
  have zl:z < s.heap.objs.size:=Heap.lt_size hz
  refine vT D hz hTI hTO g1 g2 p p2 (x:=u) (y:=u2) (by simpa using hu) (by simpa using hu2) fun h' z' TO' g1' g2' hT hsz hk=>?_
  refine ⟨_,rfl,wpAny_letOwnedTupleGo_zip (s:={s with heap:=h'}) z' fun h2 z2 sb=>?_⟩
  have hT2:h2.get? s.heap.objs.size=some {cls:=.type "tuple",data:=.seq #[u,u2]}:=(sb.2 _ (Nat.ne_of_gt zl)).trans hT
  have new:dH X.prog X.w (upd H s.heap.objs.size (.tup [x,y])) h2 s.heap.objs.size (.tup [x,y]):=⟨by show 2<=sizeLine;decide,[u,u2],.cons ru (.cons ru2 .nil),⟨_,hT2,rfl,_,rfl⟩⟩
  have I1:Inv X pins σ (upd H s.heap.objs.size (.tup [x,y])) {s with heap:=h2}:=
   I.turnedNew (t':=s.toks) (ch:=[z,TI,TO,i1,i2]) (fun c o hb q=>(sb.2 c (fun r=>hb (by simp [r]))).trans (hk c o (fun r=>hb (by simp [r])) (fun r=>hb (by simp [r])) (fun r=>hb (by simp [r])) (fun r=>hb (by simp [r])) q)) hf (Nat.le_refl _) new
  refine ⟨.ref s.heap.objs.size,_,I1,rfl,⟨_,x,y,rfl,I.hok.fresh (Nat.le_refl _),rfl,fun l hl=>by rw [yB I hl qx];exact hx,fun l hl=>by rw [yB I hl qy];exact hy⟩,⟨z2,?_,⟨u,u2,?_⟩,?_,?_⟩,fun c hcm=>?_⟩
  ·exact (sb.2 _ D.TIz).trans (hk _ _ D.TIz D.TITO D.TIi1 D.TIi2 hTI)
  ·exact (sb.2 _ D.TOz).trans TO'
  ·exact g1'.put fun o q=>(sb.2 _ D.i1z).trans q
  ·exact g2'.put fun o q=>(sb.2 _ D.i2z).trans q
  ·have hlt:c < s.heap.objs.size:=by
    have e':c=z\/c=TI\/c=TO\/c=i1\/c=i2:=by simpa using hcm
    rcases e' with q | q | q | q | q
    ·rw [q];exact zl
    ·rw [q];exact Heap.lt_size hTI
    ·rw [q];exact Heap.lt_size hTO
    ·rw [q];obtain ⟨_,e1,_⟩:=g1.obj;exact Heap.lt_size e1
    ·rw [q];obtain ⟨_,e2,_⟩:=g2.obj;exact Heap.lt_size e2
   rw [am (Nat.ne_of_lt hlt)]
   exact (hf c hcm).1
 done:=by
  intro X hP hw hK hc i pins s σ H E I hf st hg
  subst hP hw hK
  obtain ⟨hz,hTI,⟨x0,y0,hTO⟩,g1,g2⟩:=st
  obtain ⟨xs,ys,qx,qy,hend⟩:=hg
  obtain ⟨its,rv,p⟩:=mt I qx
  obtain ⟨its2,rv2,p2⟩:=mt I qy
  have n1:=rv.length
  have n2:=rv2.length
  have he:its.toArray[i]?=none\/its2.toArray[i]?=none:=by
   rcases hend with q | q
   ·exact .inl (by simp;omega)
   ·exact .inr (by simp;omega)
  exact qf (I.ok.hd hc) D hz hTI hTO g1 g2 p p2 he fun h' hk=>⟨rfl,I.turnedL (t':=s.toks) (ch:=[z,TI,TO,i1,i2]) (fun c o hb q=>hk c o (fun r=>hb (by simp [r])) (fun r=>hb (by simp [r])) (fun r=>hb (by simp [r])) (fun r=>hb (by simp [r])) q) hf⟩
 self:=fun A i s Q E st h=>wpAny_pyIter_zip st.1 h
def afv (K:PySem.W.Frag)(kl kr:Bool)(ta:TA):TI:=fun σ H R=>ta σ H fun vs H1=>∃ a b xs ys,vs=[.ref a,.ref b]/\SqK kl K H1 a xs/\SqK kr K H1 b ys/\R (adk K kl kr a b) H1
theorem x6 {X:Cx}{kl kr:Bool}{e e2:Expr}{ta:TA}{p pos tpos:Pos}{elts:List Expr}{kk:Nat}(hg:Gl X "zip")(hm:X.mg "zip"=none)(ha:PA X [e,e2] ta)
  (hs:starEach [e,e2] X.env=(false,eval e X.env)::starEach [e2] X.env:=by rfl)(hpl:(backTo pos (starEach [e2] X.env)).any (·.1)=false:=by rfl):
  PI X (.Tuple elts kk tpos) (.Call (.Name "zip" p) [e,e2] [] pos) (afv X.K kl kr ta):=by
 intro pins s σ H R I h
 refine Call_ (mO I hg hm y8 (PyProof.Rows.callWith_type1 (thn (ha pos pins s σ H _ I h) fun us s1 ⟨vs,H1,I1,r1,q1⟩=>?_) hs hpl))
 obtain ⟨a,b,xs,ys,ex,qx,qy,q⟩:=q1
 subst ex
 cases r1 with
 | cons r rr=>
  cases rr with
  | cons r' rr=>
   cases rr
   cases r
   cases r'
   obtain ⟨its,rv,p1⟩:=mt I1 qx
   obtain ⟨its2,rv2,p2⟩:=mt I1 qy
   refine zw p1 p2 fun h' hz hTI hTO g1 g2 hk=>wpAny_pyIter_zip hz ?_
   have I2:Inv X pins σ H1 {s1 with heap:=h'}:=I1.kept (t':=s1.toks) hk
   refine ⟨s1.heap.objs.size+4,[s1.heap.objs.size+4,s1.heap.objs.size+2,s1.heap.objs.size+3,s1.heap.objs.size,s1.heap.objs.size+1],_,_,H1,rfl,I2,y1 (PySem.W.ktu_apart s1.heap.objs.size a b p1.lt p2.lt),⟨hz,hTI,⟨_,_,hTO⟩,g1,g2⟩,fun c hcm=>?_,q⟩
   have e':c=s1.heap.objs.size+4\/c=s1.heap.objs.size+2\/c=s1.heap.objs.size+3\/c=s1.heap.objs.size\/c=s1.heap.objs.size+1:=by simpa using hcm
   have hle:s1.heap.objs.size<=c:=by rcases e' with z | z | z | z | z<;>(rw [z];first | exact Nat.le_add_right _ _ | exact Nat.le_refl _)
   exact I1.fpOk hle (I1.hok.fresh hle)
def wH {α β:Type}(R:Rp α)(S:Rp β)(K:PySem.W.Frag)(as:List α)(bs:List β):Nat->VK:=fun i v H=>∃ T x y d f,v=.ref T/\H T=some (.tup [x,y])/\as[i]?=some d/\bs[i]?=some f/\R K d x H/\S K f y H
theorem zN {K:PySem.W.Frag}{α β:Type}{R:Rp α}{S:Rp β}[Mono R][Mono S]{kl kr:Bool}{as:List α}{bs:List β}{a b:Addr}{xs ys:List V}{H1:Hp}(qx:SqK kl K H1 a xs)(qy:SqK kr K H1 b ys)(zx:All R K H1 xs as)(zy:All S K H1 ys bs):
  Walk (adk K kl kr a b) H1 (min as.length bs.length) (wH R S K as bs):=by
 refine ⟨fun H2 s2 i hi=>?_,fun H2 s2 i hi v H' y=>?_,fun H2 s2=>⟨xs,ys,d6 s2 qx,d6 s2 qy,?_⟩⟩
 ·exact ⟨xs,ys,_,_,d6 s2 qx,d6 s2 qy,List.getElem?_eq_getElem (by rw [zx.length];omega),List.getElem?_eq_getElem (by rw [zy.length];omega)⟩
 ·obtain ⟨T,x,y,e,n,e2,h1,h2⟩:=y
  obtain ⟨d,hd,rd⟩:=(zx.mono s2).getV (h1 xs (d6 s2 qx))
  obtain ⟨f,hf,rf⟩:=(zy.mono s2).getV (h2 ys (d6 s2 qy))
  subst e2
  exact ⟨a8 n,T,x,y,d,f,e,aj,hd,hf,Mono.mono (a8 n) rd,Mono.mono (a8 n) rf⟩
 ·have:=zx.length
  have:=zy.length
  omega
def cK (k:Bool){α:Type}(R:Rp α):Rp (List α):=fun K as v H=>∃ a xs,v=.ref a/\SqK k K H a xs/\All R K H xs as
theorem abf {X:Cx}{σ:L2.St}{H0:Hp}{α β:Type}{R:Rp α}{S:Rp β}[Mono R][Mono S]{kl kr:Bool}{as:List α}{bs:List β}{a b:Expr}{p pos tpos:Pos}{elts:List Expr}{kk:Nat}(ha:PX X σ H0 a (cK kl R X.K as))(hb:PX X σ H0 b (cK kr S X.K bs))(hm:X.mg "zip"=none)(hg:Gl X "zip":=by rfl)
  (hs:starEach [a,b] X.env=(false,eval a X.env)::starEach [b] X.env:=by rfl)(hs':starEach [b] X.env=(false,eval b X.env)::starEach [] X.env:=by rfl)(hpl:(backTo pos (starEach [b] X.env)).any (·.1)=false:=by rfl):
  PIX X σ H0 (.Tuple elts kk tpos) (.Call (.Name "zip" p) [a,b] [] pos) (min as.length bs.length) (wH R S X.K as bs):=
 ⟨_,x6 (kl:=kl) (kr:=kr) hg hm (aq ah (aq ah be hs') hs) hs hpl,fun H s Q k=>ha H s _ fun v H1 s1 ⟨l,xs,e,q,z⟩=>hb H1 (s.trans s1) _ fun w H2 s2 ⟨l',xs',e',q',z'⟩=>
  ⟨l,l',xs,xs',by rw [e,e'],d6 s2 q,q',k _ H2 (s1.trans s2) (zN (d6 s2 q) q' (z.mono s2) z')⟩⟩
theorem yK {X:Cx}{K:PySem.W.Frag}{σ:L2.St}{H0:Hp}{α β:Type}{R:Rp α}{S:Rp β}[Mono R][Mono S]{kl kr:Bool}{as:List α}{bs:List β}{a b:Expr}{p pos tpos:Pos}{elts:List Expr}{kk:Nat}(ha:PX X σ H0 a (cK kl R K as))(hb:PX X σ H0 b (cK kr S K bs))(hm:X.mg "zip"=none)(hg:Gl X "zip":=by rfl)
  (hs:starEach [a,b] X.env=(false,eval a X.env)::starEach [b] X.env:=by rfl)(hs':starEach [b] X.env=(false,eval b X.env)::starEach [] X.env:=by rfl)(hpl:(backTo pos (starEach [b] X.env)).any (·.1)=false:=by rfl)(hK:X.K=K:=by rfl):
  PIX X σ H0 (.Tuple elts kk tpos) (.Call (.Name "zip" p) [a,b] [] pos) (min as.length bs.length) (wH R S K as bs):=by
 subst hK
 exact abf ha hb hm hg hs hs' hpl
instance {k:Bool}{α:Type}{R:Rp α}[Mono R]:Mono (cK k R):=⟨fun s ⟨a,xs,e,q,h⟩=>⟨a,xs,e,d6 s q,h.mono s⟩⟩
end Bq
set_option maxHeartbeats 2000000
namespace Bq
open PySem PySem.Spec PyProof.Rows L2
theorem lk:∀ {fl:List (Str×V)} {ns:List Str} {f:Str} {v:V} (i:Nat),fl.map (·.1)=ns->ns.Nodup->fl[i]?=some (f,v)->fl.lookup f=some v
 | [],_,_,_,i,_,_,h=>by simp at h
 | (g,x)::r,ns,f,v,0,e,nd,h=>by
  have z:(g,x)=(f,v):=Option.some.inj h
  have z1:g=f:=congrArg Prod.fst z
  have z2:x=v:=congrArg Prod.snd z
  subst z1 z2
  rw [List.lookup_cons,beq_self_eq_true]
 | (g,x)::r,ns,f,v,i+1,e,nd,h=>by
  subst e
  have nd':(g::r.map (·.1)).Nodup:=nd
  obtain ⟨n1,n2⟩:=List.nodup_cons.mp nd'
  have h':r[i]?=some (f,v):=h
  have ne:(f == g)=false:=by
   rw [beq_eq_false_iff_ne]
   intro z
   subst z
   exact n1 (List.mem_map.mpr ⟨_,List.mem_of_getElem? h',rfl⟩)
  rw [List.lookup_cons,ne]
  exact lk i rfl n2 h'
theorem lkn:∀ {fl:List (Str×V)} {ns:List Str} {m:Str},fl.map (·.1)=ns->m ∉ ns->fl.lookup m=none
 | [],_,_,_,_=>rfl
 | (g,x)::r,ns,m,e,h=>by
  subst e
  have h1:m≠g:=fun z=>h (by rw [z];exact List.mem_cons_self)
  have ne:(m == g)=false:=beq_eq_false_iff_ne.mpr h1
  rw [List.lookup_cons,ne]
  exact lkn rfl fun z=>h (List.mem_cons_of_mem _ z)
def cO (C:Addr){α:Type}(fl:α->List (Str×V)):Rp α:=fun _ d v H=>∃ p dx,v=.ref p/\H p=some (.ins C dx (fl d))
instance {C:Addr}{α:Type}{fl:α->List (Str×V)}:Mono (cO C fl):=⟨fun s ⟨p,dx,e,h⟩=>⟨p,dx,e,s _ _ h⟩⟩
instance {C:Addr}{α:Type}{fl:α->List (Str×V)}:Frz (cO C fl):=⟨fun hD ⟨p,dx,e,h⟩=>⟨p,dx,e,by rw [am (b9 h hD (by intro z;cases z))];exact h⟩⟩
abbrev Ra (α:Type):=PySem.W.Frag->α->List V->Hp->Prop
def aN:Ra Unit:=fun _ _ vs _=>vs=[]
def aC {α β:Type}(R:Rp α)(A:Ra β):Ra (α×β):=fun K d vs H=>∃ v ws,vs=v::ws/\R K d.1 v H/\A K d.2 ws H
section
variable {X:Cx}{σ:L2.St}{H0 H:Hp}{e a b c o:Expr}{es:List Expr}{pos p p2 apos cpos:Pos}{α β γ δ:Type}{R:Rp α}{S:Rp β}{U:Rp δ}{K:PySem.W.Frag}{A:Ra β}{P:VK}{D:Ends}{rest:List Stmt}
theorem ag:PAX X σ H0 [] (aN K ()):=acR
theorem ad [Mono R]{d:α}{d':β}(h:PX X σ H0 e (R K d))(hr:PAX X σ H0 es (A K d'))(hs:starEach (e::es) X.env=(false,eval e X.env)::starEach es X.env:=by rfl):PAX X σ H0 (e::es) (aC R A K (d,d')):=by
 obtain ⟨t,p,q⟩:=hr
 exact ⟨_,aq ah p hs,fun H s Q k=>h H s _ fun v H1 s1 h1=>q H1 (s.trans s1) _ fun ws H2 s2 h2=>k _ H2 (s1.trans s2) ⟨v,ws,rfl,Mono.mono s2 h1,h2⟩⟩
structure aW (K:PySem.W.Frag)(mg:Str->Option Value)(x:Str)(st:Stmt)(ps:List Str):Prop where
 ex:∃ f fd,mg x=some (.ref f)/\Fun K x x st f fd/\Binds K fd ps []
structure aT (K:PySem.W.Frag)(C:Addr)(m qual:Str)(st:Stmt)(ps:List Str):Prop where
 ex:∃ f fd,Meth K C m f/\Fun K m qual st f fd/\Binds K fd ps []
structure gr (K:PySem.W.Frag)(mg:Str->Option Value)(x:Str)(C:Addr)(qual:Str)(st:Stmt)(ps:List Str):Prop where
 ex:∃ f fd,mg x=some (.ref C)/\Mk K C f/\Fun K "__init__" qual st f fd/\Binds K fd ps []
structure Cal (P:Program)(w:World)(K:PySem.W.Frag)(mg:Str->Option Value)(base:Heap)(x:Str)(k:Nat)(sp:Sp):Prop where
 ex:∃ f fd ps,mg x=some (.ref f)/\PySem.W.keepIn K (.ref f)=true/\Binds K fd ps []/\eI P w K mg base CX0 k f fd ps sp
structure az (P:Program)(w:World)(K:PySem.W.Frag)(mg:Str->Option Value)(base:Heap)(C:Addr)(m:Str)(k:Nat)(sp:Sp):Prop where
 ex:∃ f fd ps,Meth K C m f/\Binds K fd ps []/\eI P w K mg base CX0 k f fd ps sp
structure gz (P:Program)(w:World)(K:PySem.W.Frag)(mg:Str->Option Value)(base:Heap)(x:Str)(C:Addr)(k:Nat)(sp:Sp):Prop where
 ex:∃ f fd ps,mg x=some (.ref C)/\Mk K C f/\Binds K fd ps []/\eI P w K mg base CX0 k f fd ps sp
end
section
variable {P:Program}{w:World}{K:PySem.W.Frag}{mg:Str->Option Value}{base:Heap}{x m qual:Str}{st:Stmt}{ps N:List Str}{k:Nat}{sp:Sp}{C:Addr}
theorem aW.cal (F:aW K mg x st ps)(S:af N ps (ae st))(len:∀ vs H Q E,sp vs H Q E->vs.length=ps.length)
  (hb:∀ (f:Addr) (cdv:Value) (A:Around) (outer:List Env) (s:Shared) (H:Hp) (vs:List V) (Q:VK) (E:XK),Room k (A.deeper (envOfC x (ae st) s.heap.objs.size f cdv))->sp vs H Q E->
   SX (pK CX0 P w K mg base N x (ae st) f cdv A outer s H E).nox {nx:=fun _ H'=>Q .non H',rt:=Q} (eZ st) (start N vs) H):Cal P w K mg base x (k+1) sp:=by
 obtain ⟨f,fd,hm,hF,hB⟩:=F.ex
 exact ⟨f,fd,ps,hm,hF.kp,hB,hF.ok S len fun cdv A outer s H vs Q E hr h=>⟨_,gp,hb f cdv A outer s H vs Q E hr h⟩⟩
theorem aT.cal (F:aT K C m qual st ps)(S:af N ps (ae st))(len:∀ vs H Q E,sp vs H Q E->vs.length=ps.length)
  (hb:∀ (f:Addr) (cdv:Value) (A:Around) (outer:List Env) (s:Shared) (H:Hp) (vs:List V) (Q:VK) (E:XK),Room k (A.deeper (envOfC qual (ae st) s.heap.objs.size f cdv))->sp vs H Q E->
   SX (pK CX0 P w K mg base N qual (ae st) f cdv A outer s H E).nox {nx:=fun _ H'=>Q .non H',rt:=Q} (eZ st) (start N vs) H):az P w K mg base C m (k+1) sp:=by
 obtain ⟨f,fd,hm,hF,hB⟩:=F.ex
 exact ⟨f,fd,ps,hm,hB,hF.ok S len fun cdv A outer s H vs Q E hr h=>⟨_,gp,hb f cdv A outer s H vs Q E hr h⟩⟩
theorem gr.cal (F:gr K mg x C qual st ps)(S:af N ps (ae st))(len:∀ vs H Q E,sp vs H Q E->vs.length=ps.length)
  (hb:∀ (f:Addr) (cdv:Value) (A:Around) (outer:List Env) (s:Shared) (H:Hp) (vs:List V) (Q:VK) (E:XK),Room k (A.deeper (envOfC qual (ae st) s.heap.objs.size f cdv))->sp vs H Q E->
   SX (pK CX0 P w K mg base N qual (ae st) f cdv A outer s H E).nox {nx:=fun _ H'=>Q .non H',rt:=Q} (eZ st) (start N vs) H):gz P w K mg base x C (k+1) sp:=by
 obtain ⟨f,fd,hm,M,hF,hB⟩:=F.ex
 exact ⟨f,fd,ps,hm,M,hB,hF.ok S len fun cdv A outer s H vs Q E hr h=>⟨_,gp,hb f cdv A outer s H vs Q E hr h⟩⟩
end
def spI {α:Type}(K:PySem.W.Frag)(C:Addr)(A:Ra α)(pre:α->Prop)(rel:α->Addr->Hp->Prop):Sp:=fun vs H Q _=>∃ x dx d ws,vs=.ref x::ws/\H x=some (.ins C dx [])/\A K d ws H/\pre d/\
 ∀ H',rel d x H'->(∀ b o,H b=some o->b≠x->H' b=some o)->Q .non H'
class MonoA {α:Type} (A:Ra α):Prop where
 mono:∀ {K:PySem.W.Frag} {d:α} {vs:List V} {H H':Hp},Same H H'->A K d vs H->A K d vs H'
instance:MonoA aN:=⟨fun _ h=>h⟩
instance {α β:Type}{R:Rp α}{A:Ra β}[Mono R][MonoA A]:MonoA (aC R A):=⟨fun s ⟨v,ws,e,h1,h2⟩=>⟨v,ws,e,Mono.mono s h1,MonoA.mono s h2⟩⟩
section
variable {X:Cx}{σ:L2.St}{H0 H:Hp}{e a b c o iter tg:Expr}{es:List Expr}{pos p p2 apos cpos:Pos}{α β γ δ:Type}{R:Rp α}{S:Rp β}{U:Rp δ}{K:PySem.W.Frag}{P:VK}{D:Ends}{rest body:List Stmt}
theorem aQ {x:Str}{k:Nat}{A:Ra γ}{pre:γ->Prop}{g:γ->δ}{d:γ}{y:δ}(C:Cal X.prog X.w X.K X.mg X.base x k (spF K A pre U g))(hr:Room k X.A)(ha:PAX X σ H0 (e::es) (A K d))(hp:pre d)(hy:g d=y:=by rfl)(hg:Gl X x:=by rfl)(hdb:(x == ("__debug__":Str))=false:=by decide)
  (he:starEach (e::es) X.env=(false,eval e X.env)::starEach es X.env:=by rfl)(hpl:(backTo pos (starEach es X.env)).any (·.1)=false:=by rfl):PX X σ H0 (.Call (.Name x p) (e::es) [] pos) (U K y):=by
 obtain ⟨f,fd,ps,hm,hk,hb,F⟩:=C.ex
 subst hy
 exact ade F hr hm hk hb ha (fun vs H _ h=>h) hp hg hdb he hpl
theorem kd {C:Addr}{f:Str}(c:Cls X.K C)(n:aA X.K C f)(he:PX X σ H0 e (fun v H=>∃ p dx fl u,v=.ref p/\H p=some (.ins C dx fl)/\fl.lookup f=some u/\P u H))(hb:attributeBase e f X.env (eval e X.env)=eval e X.env:=by rfl):PX X σ H0 (.Attribute e f pos) P:=
 bp (ael ah hb) fun H s Q k=>he H s _ fun v H1 s1 ⟨p,dx,fl,u,e1,e2,e3,h⟩=>⟨p,C,dx,fl,u,e1,e2,c,n,e3,k u H1 s1 h⟩
theorem bM {C:Addr}{m:Str}{k:Nat}{A:Ra γ}{pre:α×γ->Prop}{g:α×γ->δ}{d:α}{d':γ}{y:δ}[Mono R](c:Cls X.K C)(M:az X.prog X.w X.K X.mg X.base C m k (spF K (aC R A) pre U g))(hr:Room k X.A)(ho:PX X σ H0 o (R K d))
  (hs:∀ v H,R K d v H->∃ p dx fl,v=.ref p/\H p=some (.ins C dx fl)/\fl.lookup m=none)(ha:PAX X σ H0 (e::es) (A K d'))(hp:pre (d,d'))(hy:g (d,d')=y:=by rfl){pl:Sem Bool}
  (hst:starEach (e::es) X.env=(false,eval e X.env)::starEach es X.env:=by rfl)(hpl:(backTo pos (starEach es X.env)).any (·.1)=false:=by rfl)
  (ht:eval (.Call (.Attribute o m apos) (e::es) [] pos) X.env=(do
   let ov <-eval o X.env
   standAt apos.atName
   let (f,first) <-holding [ov] (getMethod ov m pl)
   callWith pos f first (backTo pos (starEach (e::es) X.env)) (backToKw pos (keywordEach [] X.env))):=by rfl):PX X σ H0 (.Call (.Attribute o m apos) (e::es) [] pos) (U K y):=by
 subst hy
 obtain ⟨f,fd,ps,hm,hb,F⟩:=M.ex
 obtain ⟨t,h1,h2⟩:=ha
 refine bp (fL (pl:=pl) (E:=E0) (dvs:=[]) ah c hm F hr hb .nil pass0 h1 hst hpl ht) fun H s Q k=>ho H s _ fun v H1 s1 r1=>?_
 obtain ⟨p,dx,fl,e1,e2,e3⟩:=hs v H1 r1
 refine ⟨p,dx,fl,e1,e2,e3,h2 H1 (s.trans s1) _ fun vs H2 s2 q=>?_⟩
 show spF K (aC R A) pre U g (v::(vs++[])) H2 Q E0
 rw [List.append_nil]
 exact ⟨(d,d'),⟨v,vs,rfl,Mono.mono s2 r1,q⟩,hp,fun u H' s' h=>k u H' (s1.trans (s2.trans s')) h⟩
theorem hX {C:Addr}{m:Str}{k:Nat}{pre:α×Unit->Prop}{g:α×Unit->δ}{d:α}{y:δ}[Mono R](c:Cls X.K C)(M:az X.prog X.w X.K X.mg X.base C m k (spF K (aC R aN) pre U g))(hr:Room k X.A)(ho:PX X σ H0 o (R K d))
  (hs:∀ v H,R K d v H->∃ p dx fl,v=.ref p/\H p=some (.ins C dx fl)/\fl.lookup m=none)(hp:pre (d,()))(hy:g (d,())=y:=by rfl){pl:Sem Bool}
  (ht:eval (.Call (.Attribute o m apos) [] [] pos) X.env=(do
   let ov <-eval o X.env
   standAt apos.atName
   let (f,first) <-holding [ov] (getMethod ov m pl)
   callWith pos f first (backTo pos (starEach [] X.env)) (backToKw pos (keywordEach [] X.env))):=by rfl):PX X σ H0 (.Call (.Attribute o m apos) [] [] pos) (U K y):=by
 subst hy
 obtain ⟨f,fd,ps,hm,hb,F⟩:=M.ex
 refine bp (hZ (pl:=pl) (E:=E0) (dvs:=[]) ah c hm F hr hb .nil pass0 ht) fun H s Q k=>ho H s _ fun v H1 s1 r1=>?_
 obtain ⟨p,dx,fl,e1,e2,e3⟩:=hs v H1 r1
 exact ⟨p,dx,fl,e1,e2,e3,(d,()),⟨v,[],rfl,r1,rfl⟩,hp,fun u H' s' h=>k u H' (s1.trans s') h⟩
theorem jk {C:Addr}{x:Str}{k:Nat}{A:Ra γ}[MonoA A]{pre:γ->Prop}{rel:γ->Addr->Hp->Prop}{d:γ}(M:gz X.prog X.w X.K X.mg X.base x C k (spI K C A pre rel))(hr:Room (k+1) X.A)(ha:PAX X σ H0 (e::es) (A K d))(hp:pre d)
  (hP:∀ y H,H0 y=none->rel d y H->P (.ref y) H)(hg:Gl X x:=by rfl)(hdb:(x == ("__debug__":Str))=false:=by decide)(he:starEach (e::es) X.env=(false,eval e X.env)::starEach es X.env:=by rfl)(hpl:(backTo pos (starEach es X.env)).any (·.1)=false:=by rfl):
  PX X σ H0 (.Call (.Name x p) (e::es) [] pos) P:=by
 obtain ⟨f,fd,ps,hm,hM,hb,F⟩:=M.ex
 obtain ⟨t,h1,h2⟩:=ha
 refine bp (xZ (E:=E0) (dvs:=[]) hM F hr hg hm hb .nil pass0 h1 hdb he hpl) fun H s Q k=>h2 H s _ fun vs H1 s1 q y dy n1 n2 n3=>?_
 have s2:Same H1 (upd (upd H1 dy (.own y)) y (.ins C dy [])):=cD (a8 n2) (by rw [am (Ne.symm n3)];exact n1)
 show spI K C A pre rel (.ref y::(vs++[])) _ _ E0
 rw [List.append_nil]
 refine ⟨y,dy,d,vs,rfl,aj,MonoA.mono s2 q,hp,fun H' hr hk=>⟨rfl,?_⟩⟩
 have s3:Same H1 H':=Same.made n1 n2 hk
 exact k _ H' (s1.trans s3) (hP y H' ((s.trans s1).free n1) hr)
theorem cw {pa:Addr}{xs:List V}(ho:PX X σ H o (fun v _=>v=.ref pa))(he:PX X σ H e P)(hH:H pa=some (.lst xs))(hn:xs.length < sizeLine)(k:∀ v H',Same H H'->P v H'->SX X D rest σ (upd H' pa (.lst (xs++[v]))))
  (hbase:attributeBase o "append" X.env (eval o X.env)=eval o X.env:=by rfl)
  (hfew:((backTo cpos (starEach [e] X.env)).all (fun x=>!x.1)&&(backToKw cpos (keywordEach [] X.env)).all (fun x=>x.1.isSome)&&decide ([e].length+([]:List Keyword).length+(if ([]:List Keyword).isEmpty then 0 else 1) < 30))=true:=by rfl)
  (hline:(apos.endLine == cpos.line)=true:=by rfl)(hs:starEach [e] X.env=(false,eval e X.env)::starEach [] X.env:=by rfl)(hsw:swapsWith (.Call (.Attribute o "append" apos) [e] [] cpos) none pos.line X.env=pure false:=by rfl):
  SX X D (.Expr (.Call (.Attribute o "append" apos) [e] [] cpos) pos::rest) σ H:=by
 refine bh (kK (adJ PySem.F.plainAttrs_list PySem.F.slot_list_append PySem.F.type_list_append z5 ah (aq ah be hs) hbase hfew hline hs rfl) hsw) (ho.now fun v H1 s1 e1=>?_)
 subst e1
 refine ⟨.inl ⟨rfl,xs,SqL.of (s1 _ _ hH)⟩,he H1 s1 _ fun u H2 s2 h2=>⟨pa,xs,u,rfl,rfl,s2 _ _ (s1 _ _ hH),hn,k u H2 (s1.trans s2) h2⟩⟩
theorem eJ {pa:Addr}{xs:List V}{Pz:List V->Hp->Prop}(ho:PX X σ H o (fun v _=>v=.ref pa))(he:PX X σ H e (fun v H=>∃ b zs,v=.ref b/\H b=some (.lst zs)/\Pz zs H))(hH:H pa=some (.lst xs))(hn:∀ zs H',Same H H'->Pz zs H'->xs.length+zs.length<=sizeLine)
  (k:∀ zs H',Same H H'->Pz zs H'->SX X D rest σ (upd H' pa (.lst (xs++zs))))
  (hbase:attributeBase o "extend" X.env (eval o X.env)=eval o X.env:=by rfl)
  (hfew:((backTo cpos (starEach [e] X.env)).all (fun x=>!x.1)&&(backToKw cpos (keywordEach [] X.env)).all (fun x=>x.1.isSome)&&decide ([e].length+([]:List Keyword).length+(if ([]:List Keyword).isEmpty then 0 else 1) < 30))=true:=by rfl)
  (hline:(apos.endLine == cpos.line)=true:=by rfl)(hs:starEach [e] X.env=(false,eval e X.env)::starEach [] X.env:=by rfl)(hsw:swapsWith (.Call (.Attribute o "extend" apos) [e] [] cpos) none pos.line X.env=pure false:=by rfl):
  SX X D (.Expr (.Call (.Attribute o "extend" apos) [e] [] cpos) pos::rest) σ H:=by
 refine bh (kK (adJ PySem.F.plainAttrs_list PySem.F.slot_list_extend PySem.F.type_list_extend yT ah (aq ah be hs) hbase hfew hline hs rfl) hsw) (ho.now fun v H1 s1 e1=>?_)
 subst e1
 refine ⟨.inl ⟨rfl,xs,SqL.of (s1 _ _ hH)⟩,he H1 s1 _ fun u H2 s2 ⟨b,zs,e2,hb,hz⟩=>⟨pa,b,xs,zs,rfl,by rw [e2],s2 _ _ (s1 _ _ hH),hb,hn zs H2 (s1.trans s2) hz,k zs H2 (s1.trans s2) hz⟩⟩
theorem u9 {pa:Addr}{xs:List V}{i:Int}{j:Nat}(he:PX X σ H e P)(ho:PX X σ H o (fun v _=>v=.ref pa))(hi:PX X σ H a (cI K i))(hH:H pa=some (.lst xs))(hj:ixN xs.length i=some j)(k:∀ v H',Same H H'->P v H'->SX X D rest σ (upd H' pa (.lst (xs.set j v)))){spos:Pos}
  (ha:∀ v,assign (.Subscript o a spos) X.env v=(do
   let ov <-holding [v] (eval o X.env)
   let iv <-holding [v,ov] (eval a X.env)
   standAt spos
   holding [v,ov,iv] (setItem ov iv v)
   release [v,ov,iv] []):=by intro _;rfl)
  (hs:swapsWithSole [.Subscript o a spos] e pos.line X.env=pure false:=by rfl) (hw:swappedStores [.Subscript o a spos] e X.env=pure none:=by rfl) (h1:(assignEach [.Subscript o a spos] X.env).map (·.2)=[assign (.Subscript o a spos) X.env]:=by rfl)
  (Mp:∀ v H H',Same H H'->P v H->P v H':=by exact fun _ _ _ s h=>Mono.mono s h):
  SX X D (.Assign [.Subscript o a spos] e pos::rest) σ H:=by
 refine bh (aek ah (aeR ah ah aa3 ha) hs hw h1) (he.now fun v H1 s1 p1=>ho H1 s1 _ fun u H2 s2 e2=>hi H2 (s1.trans s2) _ fun t H3 s3 e3=>?_)
 exact ⟨pa,xs,i,j,e2,e3,s3 _ _ (s2 _ _ (s1 _ _ hH)),hj,k v H3 (s1.trans (s2.trans s3)) (Mp v H1 H3 (s2.trans s3) p1)⟩
theorem xx {i:Nat}{x:Str}{op:Operator}{g:Int->Int->Int}{n m:Int}{pos':Pos}(hN:X.N.Nodup)(hi:X.N[i]?=some x)(hx:Loc X.env.scope x)(ho:PIp X op (ipI g))(hv:σ[i]?=some (some (.int n)))(he:PX X σ H e (cI K m))(k:∀ H',Same H H'->SX X D rest (σ.set i (some (.int (g n m)))) H')
  (hf:X.fn x=true\/X.env.scope.names.lookup x=some .local:=by first | exact .inl rfl | exact .inr rfl | assumption):SX X D (.AugAssign (.Name x pos') op e pos::rest) σ H:=
 bh (aeO hN hi hx ah ho hf) ⟨.int n,hv,he.now fun v H1 s1 e1=>⟨n,m,rfl,e1,k H1 s1⟩⟩
theorem ka {C pa dx:Addr}{fl:List (Str×V)}{f:Str}{pos':Pos}(c:Cls X.K C)(n:aA X.K C f)(he:PX X σ H e P)(ho:PX X σ H o (fun v _=>v=.ref pa))(hH:H pa=some (.ins C dx fl))(hl:fl.length < 1000)(k:∀ v H',Same H H'->P v H'->SX X D rest σ (upd H' pa (.ins C dx (dZ f v fl))))
  (hs:swapsWith e (some (.Attribute o f pos')) pos.line X.env=pure false:=by rfl)(Mp:∀ v H H',Same H H'->P v H->P v H':=by exact fun _ _ _ s h=>Mono.mono s h):SX X D (.Assign [.Attribute o f pos'] e pos::rest) σ H:=
 bh (aeE ah ah hs) (he.now fun v H1 s1 p1=>ho H1 s1 _ fun u H2 s2 e2=>⟨pa,C,dx,fl,e2,s2 _ _ (s1 _ _ hH),c,n,hl,k v H2 (s1.trans s2) (Mp v H1 H2 s2 p1)⟩)
end
end Bq
set_option maxHeartbeats 2000000
namespace Bq
open PySem PyProof.Rows
section
variable {prog:Program}{w:World}{A:Around}{R:Result->Shared->Prop}{I T L:Addr}{a b:Value}
abbrev vy (vs:Array Value)(c:Nat):Obj:={cls:=.type "list",dict:=none,data:=.seq vs c,slots:=#[]}
abbrev aby (I L:Addr):Code:=.builtin "min.loop" ⟨[.ref I,.none,.ref L],[]⟩
abbrev mSt (I T:Addr)(a b:Value)(i:Nat)(h:Heap):Prop:=h.IsTupleIter I T i/\h.IsTuple T #[a,b]
theorem lu:(toString "min"++toString ".loop":String)="min.loop":=by decide
theorem yk (hh:A.in1.handled=none)(nT:T≠I)(nL:L≠I){s:Shared}{v:Value}{c:Nat}(st:mSt I T a b 2 s.heap)(hL:s.heap.get? L=some (vy #[v,v] c))
  (hR:∀ h' tk,(∀ x o,x≠I->x≠L->s.heap.get? x=some o->h'.get? x=some o)->R (.ok (.ret v)) {s with heap:=h',toks:=tk}):codeAny (model prog w) A (aby I L) R s:=by
 have W:=Walks.tuple (prog:=prog) (w:=w) (A:=A.in1) hh I T nT #[a,b]
 refine codeAny_builtin F.entry_min_loop ?_;rw [Around.under_plainId F.plain_min_loop _]
 show wpAny _ A.in1 (seqItems? (.ref L) >>= _) _ _ s;refine wpAny_bind (wpAny_seqItems hL rfl ?_)
 show wpAny _ A.in1 (tryCatch (pyNext (.ref I)) _ >>= _) _ _ s;refine wpAny_bind (wpAny_tryCatch (W.done s _ _ st fun h' tk hk=>?_))
 have hL':=hk L _ (by simpa using nL) hL
 show wpAny _ A.in1 (updateSeq L (fun _=>#[]) >>= _) _ _ _;refine wpAny_bind (wpAny_updateSeq hL' rfl (wpAny_bind (wpAny_letGo (wpAny_pure (hR _ tk ?_)))))
 exact fun x o h1 h2 e=>(Heap.get?_update_other _ _ (Ne.symm h2)).trans (hk x o (by simpa using h1) e)
theorem acs (hh:A.in1.handled=none)(nT:T≠I)(nL:L≠I)(nLT:T≠L){s:Shared}{c:Nat}{yes:Bool}(st:mSt I T a b 1 s.heap)(hL:s.heap.get? L=some (vy #[a,a] c))
  (hc:∀ (s':Shared) (Q' E':Value->Shared->Prop),(∀ x o,x≠I->x≠L->s.heap.get? x=some o->s'.heap.get? x=some o)->Q' (.bool yes) s'->wpAny (model prog w) A.in1 (richCompare .Lt b a) Q' E' s')
  (hR:∀ h' tk,(∀ x o,x≠I->x≠L->s.heap.get? x=some o->h'.get? x=some o)->R (.ok (.ret (if yes then b else a))) {s with heap:=h',toks:=tk}):codeAny (model prog w) A (aby I L) R s:=by
 have W:=Walks.tuple (prog:=prog) (w:=w) (A:=A.in1) hh I T nT #[a,b]
 refine codeAny_builtin F.entry_min_loop ?_;rw [Around.under_plainId F.plain_min_loop _]
 show wpAny _ A.in1 (seqItems? (.ref L) >>= _) _ _ s;refine wpAny_bind (wpAny_seqItems hL rfl ?_)
 show wpAny _ A.in1 (tryCatch (pyNext (.ref I)) _ >>= _) _ _ s;refine wpAny_bind (wpAny_tryCatch (W.item 1 s _ _ (by simp) st fun v h' tk hv st' hk=>?_))
 have ev:b=v:=by simpa using hv
 subst ev
 have hL':=hk L _ (by simpa using nL) hL
 show wpAny _ A.in1 (tryCatch (holding [b,b] (richCompare .Lt b a >>= _)) _ >>= _) _ _ _
 refine wpAny_bind (wpAny_tryCatch (wpAny_holding (wpAny_bind (hc _ _ _ (fun x o h1 _ e=>hk x o (by simpa using h1) e) ?_))));refine wpAny_bind (wpAny_holding (wpAny_truthy_bool ?_));refine wpAny_bind (wpAny_letGo (wpAny_pure ?_))
 cases yes with
 | true=>
  simp only [if_true];refine wpAny_bind (wpAny_updateSeq hL' rfl (wpAny_bind (wpAny_letGo ?_)));rw [lu]
  refine wpAny_pure ⟨plainId_quiet F.plain_min_loop _,yk (a:=a) (b:=b) hh nT nL (W.frame _ _ _ st' fun x hx o e=>?_) (Heap.get?_update_self _ hL' rfl) fun h2 t2 hk2=>hR h2 t2 fun x o h1 h3 e=>hk2 x o h1 h3 ((Heap.get?_update_other _ _ (Ne.symm h3)).trans (hk x o (by simpa using h1) e))⟩
  have hx':x=I\/x=T:=by simpa using hx
  exact (Heap.get?_update_other _ _ (fun z:L=x=>by rcases hx' with q | q;exact nL (z.trans q);exact nLT (z.trans q).symm)).trans e
 | false=>
  simp only [Bool.false_eq_true,if_false];refine wpAny_bind (wpAny_letGo ?_);rw [lu]
  exact wpAny_pure ⟨plainId_quiet F.plain_min_loop _,yk (a:=a) (b:=b) hh nT nL st' hL' fun h2 t2 hk2=>hR h2 t2 fun x o h1 h3 e=>hk2 x o h1 h3 (hk x o (by simpa using h1) e)⟩
theorem acu (hh:A.in1.handled=none)(nT:T≠I)(nL:L≠I)(nLT:T≠L){s:Shared}{c:Nat}{yes:Bool}(st:mSt I T a b 0 s.heap)(hL:s.heap.get? L=some (vy #[] c))
  (hc:∀ (s':Shared) (Q' E':Value->Shared->Prop),(∀ x o,x≠I->x≠L->s.heap.get? x=some o->s'.heap.get? x=some o)->Q' (.bool yes) s'->wpAny (model prog w) A.in1 (richCompare .Lt b a) Q' E' s')
  (hR:∀ h' tk,(∀ x o,x≠I->x≠L->s.heap.get? x=some o->h'.get? x=some o)->R (.ok (.ret (if yes then b else a))) {s with heap:=h',toks:=tk}):codeAny (model prog w) A (aby I L) R s:=by
 have W:=Walks.tuple (prog:=prog) (w:=w) (A:=A.in1) hh I T nT #[a,b]
 refine codeAny_builtin F.entry_min_loop ?_;rw [Around.under_plainId F.plain_min_loop _]
 show wpAny _ A.in1 (seqItems? (.ref L) >>= _) _ _ s;refine wpAny_bind (wpAny_seqItems hL rfl ?_)
 show wpAny _ A.in1 (tryCatch (pyNext (.ref I)) _ >>= _) _ _ s;refine wpAny_bind (wpAny_tryCatch (W.item 0 s _ _ (by simp) st fun v h' tk hv st' hk=>?_))
 have ev:a=v:=by simpa using hv
 subst ev
 have hL':=hk L _ (by simpa using nL) hL
 show wpAny _ A.in1 (updateSeq L (fun _=>#[a,a]) >>= _) _ _ _;refine wpAny_bind (wpAny_updateSeq hL' rfl ?_);rw [lu]
 have up:∀ x o,x≠I->x≠L->s.heap.get? x=some o->(h'.update L (Obj.mapSeq fun _=>#[a,a])).get? x=some o:=fun x o h1 h3 e=>(Heap.get?_update_other _ _ (Ne.symm h3)).trans (hk x o (by simpa using h1) e)
 refine wpAny_pure ⟨plainId_quiet F.plain_min_loop _,acs (yes:=yes) hh nT nL nLT (W.frame _ _ _ st' fun x hx o e=>?_) (Heap.get?_update_self _ hL' rfl) (fun s' Q' E' hk2 q=>hc s' Q' E' (fun x o h1 h3 e=>hk2 x o h1 h3 (up x o h1 h3 e)) q) fun h2 t2 hk2=>hR h2 t2 fun x o h1 h3 e=>hk2 x o h1 h3 (up x o h1 h3 e)⟩
 have hx':x=I\/x=T:=by simpa using hx
 exact (Heap.get?_update_other _ _ (fun z:L=x=>by rcases hx' with q | q;exact nL (z.trans q);exact nLT (z.trans q).symm)).trans e
theorem aal {E:Value->Shared->Prop}{s:Shared}{Q:Value->Shared->Prop}{yes:Bool}(hh:A.handled=none)
  (hc:∀ (s':Shared) (Q' E':Value->Shared->Prop),(∀ x o,s.heap.get? x=some o->s'.heap.get? x=some o)->Q' (.bool yes) s'->wpAny (model prog w) A.in1 (richCompare .Lt b a) Q' E' s')
  (h:∀ h' tk,(∀ x o,s.heap.get? x=some o->h'.get? x=some o)->Q (if yes then b else a) {s with heap:=h',toks:=tk}):wpAny (model prog w) A (call (.builtin "min") [a,b]) Q E s:=by
 refine call_function_tree F.kind_min F.plain_min F.entry_min (F.args_min2 _ _) ?_
 show wpAny _ A.in1 (Builtin.Builtins.bindParams "min" ["key","default"] 0 ⟨[],[]⟩ >>= _) _ _ s;refine wpAny_bind (wpAny_of_eq (show Builtin.Builtins.bindParams "min" ["key","default"] 0 ⟨[],[]⟩=pure [none,none] from rfl) ?_)
 show wpAny _ A.in1 (newTuple [a,b] >>= _) _ _ s;refine wpAny_bind (wpAny_newObj_type ?_)
 have hT:(s.heap.push {cls:=.type "tuple",data:=.seq #[a,b]}).IsTuple s.heap.objs.size #[a,b]:=⟨_,Heap.get?_push_size _ rfl,rfl,0,rfl⟩
 have z1:(s.heap.push {cls:=.type "tuple",data:=.seq #[a,b]}).objs.size=s.heap.objs.size+1:=Heap.size_push ..
 refine wpAny_bind (wpAny_pyIter_tuple hT ?_);refine wpAny_bind (wpAny_newObj_type ?_);rw [lu]
 have z2:((s.heap.push {cls:=.type "tuple",data:=.seq #[a,b]}).push {cls:=.type "tuple_iterator",data:=.fields #[.ref s.heap.objs.size,.int 0 0]}).objs.size=s.heap.objs.size+2:=by rw [Heap.size_push,z1]
 have old:∀ x o,s.heap.get? x=some o->x≠s.heap.objs.size+1/\x≠s.heap.objs.size+2:=fun x o e=>⟨Nat.ne_of_lt (Nat.lt_succ_of_lt (Heap.lt_size e)),Nat.ne_of_lt (Nat.lt_succ_of_lt (Nat.lt_succ_of_lt (Heap.lt_size e)))⟩
 have kp:∀ x o,s.heap.get? x=some o->(((s.heap.push {cls:=.type "tuple",data:=.seq #[a,b]}).push {cls:=.type "tuple_iterator",data:=.fields #[.ref s.heap.objs.size,.int 0 0]}).push (vy #[] 0)).get? x=some o:=fun x o e=>Heap.get?_push_of_some _ (Heap.get?_push_of_some _ (Heap.get?_push_of_some _ e))
 have n1:s.heap.objs.size≠s.heap.objs.size+1:=Nat.ne_of_lt (Nat.lt_succ_self _)
 have n2:s.heap.objs.size+2≠s.heap.objs.size+1:=Nat.ne_of_gt (Nat.lt_succ_self _)
 have n3:s.heap.objs.size≠s.heap.objs.size+2:=Nat.ne_of_lt (Nat.lt_succ_of_lt (Nat.lt_succ_self _))
 rw [z2,z1]
 refine wpAny_pure ⟨plainId_quiet F.plain_min_loop _,acu (I:=s.heap.objs.size+1) (T:=s.heap.objs.size) (L:=s.heap.objs.size+2) (a:=a) (b:=b) (c:=0) (yes:=yes) hh n1 n2 n3 ?_ ?_ (fun s' Q' E' hk q=>?_) fun h' tk hk=>?_⟩
 ·refine ⟨⟨{cls:=.type "tuple_iterator",data:=.fields #[.ref s.heap.objs.size,.int 0 0]},Heap.get?_push_of_some _ ?_,rfl,rfl⟩,(hT.push _).push _⟩
  have g:=Heap.get?_push_size (h:=s.heap.push {cls:=.type "tuple",data:=.seq #[a,b]}) (o:={cls:=.type "tuple_iterator",data:=.fields #[.ref s.heap.objs.size,.int 0 0]}) rfl
  rw [z1] at g
  exact g
 ·have g:=Heap.get?_push_size (h:=(s.heap.push {cls:=.type "tuple",data:=.seq #[a,b]}).push {cls:=.type "tuple_iterator",data:=.fields #[.ref s.heap.objs.size,.int 0 0]}) (o:=vy #[] 0) rfl
  rw [z2] at g
  exact g
 ·exact hc s' Q' E' (fun x o e=>hk x o (old x o e).1 (old x o e).2 (kp x o e)) q
 ·exact h h' tk fun x o e=>hk x o (old x o e).1 (old x o e).2 (kp x o e)
end
end Bq
namespace Bq
open PySem PyProof.Rows PySem.SeqAt PySem.MeetsSeq PySem.MeetsSeq2 PySem.MeetsSeq3
open PySem.AutoSeq1 (wpAny_loadPart')
theorem abW (A:Around)(s:Shared)(a:Int)(t:Tok)(c:Int)(u:Tok)(prog:Program)(w:World)(E:Value->Shared->Prop)(Q:Value->Shared->Prop)(h:Q (.bool (decide (c < a))) s):wpAny (model prog w) A (richCompare .Gt (.int a t) (.int c u)) Q E s:=
 (PyProof.Rows.gt_int h:wpAny (model prog w) A (compareOp .Gt (.int a t) (.int c u)) Q E s)
theorem aa6 (x y:Int)(xs ys:List Int):HT.lexLt (y::ys) (x::xs)=if x=y then HT.lexLt ys xs else decide (y < x):=by
 rw [HT.lexLt_cons];by_cases e:x=y
 ·rw [if_pos e,if_pos e.symm]
 ·rw [if_neg e,if_neg (Ne.symm e)]
theorem aew (l b:Addr)(its its2:Array Value)(n n2:Nat)(dd dd2:Option Addr)(sl sl2:Array (Option Value))(ns ms:List Int)(hi:IntsAre its.toList ns)(hj:IntsAre its2.toList ms):
  Meets (Builtin.«tuple.__gt__» ⟨[.ref l,.ref b],[]⟩) (fun _ R s=>s.heap.get? l=some {cls:=.type "tuple",dict:=dd,data:=.seq its n,slots:=sl}/\s.heap.get? b=some {cls:=.type "tuple",dict:=dd2,data:=.seq its2 n2,slots:=sl2}/\R (.ok (.ret (.bool (HT.lexLt ms ns)))) s):=
 .of_wp fun prog w A R s h=>by
  obtain ⟨hp,g,d,tk,os⟩:=s;obtain ⟨hl,hb,h⟩:=h;have f2:=AutoSeq1.sub_tuple_tuple
  have z1:its.size=ns.length:=by rw [<-hi.length];simp
  have z2:its2.size=ms.length:=by rw [<-hj.length];simp
  wp_walk using wpAny_loadPart' hl,wpAny_loadPart' hb,wpAny_forIn_list _ (fun rest b s'=>b.1=none/\s'=⟨hp,g,d,tk,os⟩/\∃ (vs ws:List Value) (xs ys:List Int),rest=vs.zip ws/\IntsAre vs xs/\IntsAre ws ys/\xs.length+its2.size=ys.length+its.size/\R (.ok (.ret (.bool (HT.lexLt ys xs)))) ⟨hp,g,d,tk,os⟩) _
  case turn=>
   rintro ⟨y,x⟩ rest b s' ⟨hb',rfl,vs,ws,xs,ys,hz,hv,hw,hlen,hR⟩
   cases hv with
   | nil=>rw [List.zip_nil_left] at hz;cases hz
   | cons a t hv'=>
    cases hw with
    | nil=>rw [List.zip_nil_right] at hz;cases hz
    | cons c u hw'=>
     rw [List.zip_cons_cons] at hz;injection hz with e1 hrest;injection e1 with hy hx
     subst hy hx
     rw [aa6] at hR;simp only [List.length_cons] at hlen
     obtain ⟨e,he,hiff⟩:=HT.eqAt_int A.in1 ⟨hp,g,d,tk,os⟩ a t c u
     refine wpAny_bind (he prog w _ _ ?_)
     cases e with
     | true=>rw [if_pos (hiff.mp rfl)] at hR;wp_walk;exact ⟨rfl,rfl,_,_,_,_,hrest,hv',hw',by omega,hR⟩
     | false=>
      rw [if_neg (fun q=>absurd (hiff.mpr q) Bool.false_ne_true)] at hR;have hri:=abW A.in1 ⟨hp,g,d,tk,os⟩ a t c u prog w
      wp_walk using hri;exact ⟨_,rfl,by simpa using hR⟩
  case fin=>
   rintro ⟨b1,b2⟩ s' ⟨hb',rfl,vs,ws,xs,ys,hz,hv,hw,hlen,hR⟩
   simp only at hb';subst hb'
   have hv:HT.lexLt ys xs=decide (its2.size < its.size):=by
    cases hv with
    | nil=>
     cases hw with
     | nil=>simp only [List.length_nil] at hlen;rw [HT.lexLt_nil_nil];exact (decide_eq_false (by omega)).symm
     | cons c u hw=>simp only [List.length_nil,List.length_cons] at hlen;rw [HT.lexLt_cons_nil];exact (decide_eq_false (by omega)).symm
    | cons a t hv=>
     cases hw with
     | nil=>simp only [List.length_nil,List.length_cons] at hlen;rw [HT.lexLt_nil_cons];exact (decide_eq_true (by omega)).symm
     | cons c u hw=>rw [List.zip_cons_cons] at hz;cases hz
   rw [hv] at hR;wp_walk;exact ⟨_,rfl,by simpa [Builtin.Tuple.tupleCompareSizes] using hR⟩
  case h=>exact ⟨rfl,rfl,its.toList,its2.toList,ns,ms,rfl,hi,hj,by omega,h⟩
theorem aee {prog:Program}{w:World}{A:Around}{E:Value->Shared->Prop}{s:Shared}{l b:Addr}{its its2:Array Value}{ns ms:List Int}{Q:Value->Shared->Prop}(hl:IsTup s.heap l its)(hb:IsTup s.heap b its2)(hi:IntsAre its.toList ns)(hj:IntsAre its2.toList ms)
  (hu:A.units < cLine)(h:Q (.bool (HT.lexLt ms ns)) s):wpAny (model prog w) A (compareOp .Gt (.ref l) (.ref b)) Q E s:=by
 obtain ⟨⟨cls,dd,data,sl⟩,ho,hc,n,hd⟩:=id hl;obtain ⟨⟨cls2,dd2,data2,sl2⟩,ho2,hc2,n2,hd2⟩:=id hb;simp only at hc hd hc2 hd2
 subst hc hd hc2 hd2
 exact richCompare_meets_room (op:=.Gt) ⟨_,ho,rfl⟩ ⟨_,ho2,rfl⟩ PySem.F.slot_tuple_gt PySem.F.entry_tuple_gt (PySem.F.args_tuple_gt_2 _ _) (aew l b its its2 n n2 dd dd2 sl sl2 ns ms hi hj) ⟨ho,ho2,show Value.bool (HT.lexLt ms ns)≠Value.notImplemented/\Q (.bool (HT.lexLt ms ns)) s from ⟨(fun x=>nomatch x),h⟩⟩ hu
end Bq
namespace Bq
open PySem PySem.Spec PyProof.Rows L2
section
variable {X:Cx}{σ:L2.St}{H0 H:Hp}{a b:Expr}{pos p:Pos}{K:PySem.W.Frag}
def afP (K:PySem.W.Frag):R2:=fun x y H Q=>∃ a b ns ms,x=.ref a/\y=.ref b/\SqT K H a (ns.map V.int)/\SqT K H b (ms.map V.int)/\Q (.bl (HT.lexLt ms ns)) H
theorem adX (hu:X.A.units < cLine):OpR X (compareOp .Gt) (afP X.K):=by
 intro pins s σ H x y v u Q I rx ry h
 obtain ⟨a,b,ns,ms,rfl,rfl,ha,hb,q⟩:=h
 cases rx;cases ry
 obtain ⟨its,r1,p1,_⟩:=I.tuple ha;obtain ⟨its2,r2,p2,_⟩:=I.tuple hb
 exact aee p1 p2 (iz r1:IntsAre its.toArray.toList ns) (iz r2:IntsAre its2.toArray.toList ms) hu ⟨.bl (HT.lexLt ms ns),H,I,rfl,q⟩
theorem zR (hc:X.calm=true)(hu:X.A.units+1 < cLine):j3 X (.builtin "min") (fun xs H Q=>∃ a b ns ms,xs=[.ref a,.ref b]/\SqT X.K H a (ns.map V.int)/\SqT X.K H b (ms.map V.int)/\Q (if HT.lexLt ms ns then .ref b else .ref a) H):=by
 intro pins s σ H xs us Q I r h
 obtain ⟨a,b,ns,ms,rfl,ha,hb,q⟩:=h
 obtain ⟨u,w',rfl,r1,r2⟩:=vals2 r
 cases r1;cases r2
 obtain ⟨its,v1,p1,_⟩:=I.tuple ha;obtain ⟨its2,v2,p2,_⟩:=I.tuple hb
 have keep:∀ {x:Addr} {i:Array Value} {s':Shared},IsTup s.heap x i->(∀ x o,s.heap.get? x=some o->s'.heap.get? x=some o)->IsTup s'.heap x i:=fun ⟨o,e,c⟩ k=>⟨o,k _ _ e,c⟩
 refine aal (yes:=HT.lexLt ms ns) (I.ok.hd hc) (fun s' Q' E' k z=>HT.lt_tupInts (A:=X.A.in1) (keep p2 k) (keep p1 k) (iz v2:IntsAre its2.toArray.toList ms) (iz v1:IntsAre its.toArray.toList ns) hu z) fun h' tk k=>?_
 refine ⟨_,H,I.kept k,?_,q⟩
 cases HT.lexLt ms ns<;>rfl
theorem aaI {ns ms:List Int}(hu:X.A.units < cLine)(ha:PX X σ H0 a (cT cI X.K ns))(hb:PX X σ H0 b (cT cI X.K ms)):PTX X σ H0 (.Compare a [.Gt] [b] pos) (HT.lexLt ms ns):=
 kx (adX hu) (iw _) fun H s Q k=>ha H s _ fun v H1 s1 h1=>hb H1 (s.trans s1) _ fun w H2 s2 ⟨l2,xs2,e2,q2,z2⟩=>by
  obtain ⟨l,xs,e,q,z⟩:=(Mono.mono s2 h1:cT cI X.K ns v H2)
  rw [z.ints] at q
  rw [z2.ints] at q2
  exact ⟨l,l2,ns,ms,e,e2,q,q2,k _ H2 (s1.trans s2) rfl⟩
theorem acV {ns ms:List Int}(hu:X.A.units < cLine)(ha:PX X σ H0 a (cT cI K ns))(hb:PX X σ H0 b (cT cI K ms))(hK:X.K=K:=by rfl):PTX X σ H0 (.Compare a [.Gt] [b] pos) (HT.lexLt ms ns):=by
 subst hK
 exact aaI hu ha hb
theorem abd {ns ms:List Int}(hc:X.calm=true)(hu:X.A.units+1 < cLine)(ha:PX X σ H0 a (cT cI X.K ns))(hb:PX X σ H0 b (cT cI X.K ms))(hm:X.mg "min"=none)(hv:bootBuiltins "min"=some (.builtin "min"))(hg:Gl X "min":=by rfl)
  (hs:starEach [a,b] X.env=(false,eval a X.env)::starEach [b] X.env:=by rfl)(hs':starEach [b] X.env=(false,eval b X.env)::starEach [] X.env:=by rfl)(hpl:(backTo pos (starEach [b] X.env)).any (·.1)=false:=by rfl):
  PX X σ H0 (.Call (.Name "min" p) [a,b] [] pos) (cT cI X.K (if HT.lexLt ms ns then ms else ns)):=
 bp (hU (zR hc hu) hg hm hv (aq ah (aq ah be hs') hs) (by decide) (by decide) hs hpl) fun H s Q k=>ha H s _ fun v H1 s1 h1=>hb H1 (s.trans s1) _ fun w H2 s2 ⟨l2,xs2,e2,q2,z2⟩=>by
  obtain ⟨l,xs,e,q,z⟩:=(Mono.mono s2 h1:cT cI X.K ns v H2)
  have q':=q
  have q2':=q2
  rw [z.ints] at q'
  rw [z2.ints] at q2'
  refine ⟨l,l2,ns,ms,by rw [e,e2],q',q2',k _ H2 (s1.trans s2) ?_⟩
  cases HT.lexLt ms ns with
  | true=>exact ⟨l2,xs2,rfl,q2,z2⟩
  | false=>exact ⟨l,xs,rfl,q,z⟩
theorem acf {ns ms:List Int}(hc:X.calm=true)(hu:X.A.units+1 < cLine)(ha:PX X σ H0 a (cT cI K ns))(hb:PX X σ H0 b (cT cI K ms))(hm:X.mg "min"=none)(hv:bootBuiltins "min"=some (.builtin "min"))(hg:Gl X "min":=by rfl)
  (hs:starEach [a,b] X.env=(false,eval a X.env)::starEach [b] X.env:=by rfl)(hs':starEach [b] X.env=(false,eval b X.env)::starEach [] X.env:=by rfl)(hpl:(backTo pos (starEach [b] X.env)).any (·.1)=false:=by rfl)(hK:X.K=K:=by rfl):
  PX X σ H0 (.Call (.Name "min" p) [a,b] [] pos) (cT cI K (if HT.lexLt ms ns then ms else ns)):=by
 subst hK
 exact abd hc hu ha hb hm hv hg hs hs' hpl
end
end Bq
set_option maxHeartbeats 2000000
namespace Bq
open PySem PySem.Spec PyProof.Rows L2
section
variable {X:Cx}{σ:L2.St}{H0 H:Hp}{e a b c o iter tg:Expr}{es:List Expr}{pos p p2 apos cpos tpos:Pos}{α β γ δ:Type}{R:Rp α}{S:Rp β}{U:Rp δ}{K:PySem.W.Frag}{P:VK}{D:Ends}{rest body:List Stmt}
theorem iy {wi:TI}{g:TG}{T:It->Hp->Prop}(hp:PassesOwn (model X.prog X.w) X.A X.env X.xe)(hc:X.calm=true)(hi:PI X tg iter wi)(hg:PG X tg g)(hw:∀ R:It->Hp->Prop,(∀ J H1,T J H1->R J H1)->wi σ H R)
  (k:∀ J H1,T J H1->∃ (n:Nat) (Pv:Nat->L2.St->Hp->Prop),Pv 0 σ H1/\(∀ i σ' H',i < n->Pv i σ' H'->J.go i H'/\∀ x H2,J.yld i H' x H2->g x σ' H2 (SX X {D with nx:=Pv (i+1),ct:=Pv (i+1),bk:=SX X D rest} body))/\∀ σ' H',Pv n σ' H'->J.stop n H'/\SX X D rest σ' H')
  (hs:∀ x,foldedSetIterable iter X.env x=pure x:=by intro _;rfl):SX X D (.For tg iter body [] pos::rest) σ H:=by
 refine bh (aeB hp hc hi hg gp hs) (hw _ fun J H1 t=>?_)
 obtain ⟨n,Pv,h0,ht,hd⟩:=k J H1 t
 refine ⟨fun i m σ' H'=>m=n - i/\i<=n/\Pv i σ' H',⟨n,by simp,Nat.zero_le _,h0⟩,?_⟩
 rintro i m σ' H' ⟨rfl,hi,pv⟩
 by_cases hlt:i < n
 ·obtain ⟨q1,q2⟩:=ht i σ' H' hlt pv
  exact .inr ⟨q1,Pv (i+1),fun σ2 H2 p2=>⟨n - (i+1),by omega,rfl,hlt,p2⟩,q2⟩
 ·have e:i=n:=by omega
  subst e
  exact .inl (hd σ' H' pv)
theorem adb {i j:Int}{v:Nat}{pe:Pos}(hp:PassesOwn (model X.prog X.w) X.A X.env X.xe)(hc:X.calm=true)(h:PX X σ H a (cI K i))(h':PX X σ H b (cI K j))(hb:-(2 ^ 62)<=i/\i < 2 ^ 62/\-(2 ^ 62)<=j/\j < 2 ^ 62)(hg:PG X tg (cH v))
  (k:∀ H1,Same H H1->∃ Pv:Nat->L2.St->Hp->Prop,Pv 0 σ H1/\(∀ t σ' H',t < (j - i).toNat->Pv t σ' H'->SX X {D with nx:=Pv (t+1),ct:=Pv (t+1),bk:=SX X D rest} body (σ'.set v (some (.int (i+t)))) H')/\∀ σ' H',Pv (j - i).toNat σ' H'->SX X D rest σ' H')
  (hm:X.mg "range"=none)(hge:Gl X "range":=by rfl)(hs:starEach [a,b] X.env=(false,eval a X.env)::starEach [b] X.env:=by rfl)(hs':starEach [b] X.env=(false,eval b X.env)::starEach [] X.env:=by rfl)(hs1:starEach [a,b] X.env=[(false,eval a X.env),(false,eval b X.env)]:=by rfl)(hs2:starEach [b] X.env=[(false,eval b X.env)]:=by rfl)(hf:∀ x,foldedSetIterable (.Call (.Name "range" pe) [a,b] [] cpos) X.env x=pure x:=by intro _;rfl):
  SX X D (.For tg (.Call (.Name "range" pe) [a,b] [] cpos) body [] pos::rest) σ H:=by
 refine iy (T:=fun J H1=>J=Itr i (j - i).toNat/\Same H H1) hp hc (zB hge hm (aq ah (aq ah be hs') hs) hs1 hs2) hg (fun R' k=>h.now fun v H1 s1 e1=>h' H1 s1 _ fun w H2 s2 e2=>⟨i,j,by rw [show v=.int i from e1,show w=.int j from e2],hb,k _ H2 ⟨rfl,s1.trans s2⟩⟩) ?_ hf
 rintro J H1 ⟨rfl,s1⟩
 obtain ⟨Pv,p0,pt,pd⟩:=k H1 s1
 refine ⟨_,Pv,p0,fun t σ' H' ht pv=>⟨ht,?_⟩,fun σ' H' pv=>⟨Nat.le_refl _,pd σ' H' pv⟩⟩
 rintro x H2 ⟨e1,e2⟩
 subst e1 e2
 exact pt t σ' _ ht pv
theorem x8 {i j:Int}{v:Nat}{pe:Pos}(hp:PassesOwn (model X.prog X.w) X.A X.env X.xe)(hc:X.calm=true)(h:PX X σ H a (cI K i))(h':PX X σ H b (cI K j))(h2:PX X σ H c (cI K (-1)))(hb:-(2 ^ 62)<=i/\i < 2 ^ 62/\-(2 ^ 62)<=j/\j < 2 ^ 62)(hg:PG X tg (cH v))
  (k:∀ H1,Same H H1->∃ Pv:Nat->L2.St->Hp->Prop,Pv 0 σ H1/\(∀ t σ' H',t < (i - j).toNat->Pv t σ' H'->SX X {D with nx:=Pv (t+1),ct:=Pv (t+1),bk:=SX X D rest} body (σ'.set v (some (.int (i - t)))) H')/\∀ σ' H',Pv (i - j).toNat σ' H'->SX X D rest σ' H')
  (hm:X.mg "range"=none)(hge:Gl X "range":=by rfl)(hs:starEach [a,b,c] X.env=(false,eval a X.env)::starEach [b,c] X.env:=by rfl)(hs1:starEach [b,c] X.env=(false,eval b X.env)::starEach [c] X.env:=by rfl)(hs2:starEach [c] X.env=(false,eval c X.env)::starEach [] X.env:=by rfl)
  (hpl:(backTo cpos (starEach [b,c] X.env)).any (·.1)=false:=by rfl)(hf:∀ x,foldedSetIterable (.Call (.Name "range" pe) [a,b,c] [] cpos) X.env x=pure x:=by intro _;rfl):
  SX X D (.For tg (.Call (.Name "range" pe) [a,b,c] [] cpos) body [] pos::rest) σ H:=by
 refine iy (T:=fun J H1=>J=Itc i (-1) (i - j).toNat/\Same H H1) hp hc (ss hge hm (aq ah (aq ah (aq ah be hs2) hs1) hs) hs hpl) hg
  (fun R' k=>h.now fun v H1 s1 e1=>h' H1 s1 _ fun w H2 s2 e2=>h2 H2 (s1.trans s2) _ fun x H3 s3 e3=>⟨i,j,-1,_,by rw [show v=.int i from e1,show w=.int j from e2,show x=.int (-1) from e3],RgC.neg hb.1 hb.2.1 hb.2.2.1 hb.2.2.2,k _ H3 ⟨rfl,s1.trans (s2.trans s3)⟩⟩) ?_ hf
 rintro J H1 ⟨rfl,s1⟩
 obtain ⟨Pv,p0,pt,pd⟩:=k H1 s1
 refine ⟨_,Pv,p0,fun t σ' H' ht pv=>⟨ht,?_⟩,fun σ' H' pv=>⟨Nat.le_refl _,pd σ' H' pv⟩⟩
 rintro x H2 ⟨e1,e2⟩
 subst e1 e2
 have e3:i+((t:Nat):Int) * -1=i - t:=by omega
 show SX X _ body (σ'.set v (some (.int (i+((t:Nat):Int) * -1)))) _
 rw [e3]
 exact pt t σ' _ ht pv
theorem wD {W:Nat->L2.St->Hp->Prop}{m:Nat}(hp:PassesOwn (model X.prog X.w) X.A X.env X.xe)(h0:W m σ H)
  (turn:∀ m σ' H',W m σ' H'->∃ q,PTX X σ' H' c q/\(q=true->∀ H2,Same H' H2->∃ N:L2.St->Hp->Prop,(∀ σ2 H3,N σ2 H3->∃ m',m' < m/\W m' σ2 H3)/\SX X {D with nx:=N,ct:=N,bk:=SX X D rest} body σ' H2)/\(q=false->∀ H2,Same H' H2->SX X D rest σ' H2)):
  SX X D (.While c body [] pos::rest) σ H:=by
 refine bh (ab1 hp m8 gp) ⟨W,⟨m,h0⟩,fun m' σ' H' w'=>?_⟩
 obtain ⟨q,hq,h1,h2⟩:=turn m' σ' H' w'
 refine hq H' (bi H') _ fun H2 s2=>?_
 cases q with
 | true=>exact h1 rfl H2 s2
 | false=>exact h2 rfl H2 s2
theorem ab9 (k:D.bk σ H):SX X D (.Break pos::rest) σ H:=bh abm k
theorem yf {q:Bool}{j:Nat}{pn:Pos}(ha:PX X σ H0 a (fun v _=>decide (v=.non)=q)):PTX X σ H0 (.Compare a [.Is] [.Constant .none j pn] pos) q:=
 j6 (adL (aed ah)) fun H s Q k=>ha H s _ fun v H1 s1 e1=>⟨q,by rw [e1],k H1 s1⟩
theorem aba {as:List α}(ha:PX X σ H0 a (cL R X.K as))(he:∀ whole,isTrue a X.env whole=(do let v <-whole;standAt a.pos;holding [v] (truthy v)):=by intro _;rfl):PTX X σ H0 a (!as.isEmpty):=
 j6 (abY ah he) fun H s Q k=>ha H s _ fun v H1 s1 ⟨l,xs,e1,q,z⟩=>by
  have e2:xs.isEmpty=as.isEmpty:=by
   have:=z.length
   cases xs<;>cases as<;>simp_all
  subst e1
  exact ⟨_,.inl ⟨xs,q,rfl⟩,by rw [e2];exact k H1 s1⟩
theorem ach {as:List α}(ha:PX X σ H0 a (cL R K as))(he:∀ whole,isTrue a X.env whole=(do let v <-whole;standAt a.pos;holding [v] (truthy v)):=by intro _;rfl)(hK:X.K=K:=by rfl):PTX X σ H0 a (!as.isEmpty):=by
 subst hK
 exact aba ha he
theorem aei [Mono R]{as:List α}{n:Int}(ha:PX X σ H0 a (cM R K as))(hb:PX X σ H0 b (cI K n))(h1:0<=n)(h2:n < 2 ^ 63)(hl:as.length * n.toNat<=sizeLine):PX X σ H0 (.BinOp a .Mult b pos) (cF H0 R K (List.replicate n.toNat as).flatten):=
 bp (uS aeD ah ah) fun H s Q k=>ha H s _ fun v H1 s1 r1=>hb H1 (s.trans s1) _ fun w H2 s2 e2=>by
  obtain ⟨l,xs,e,q,z⟩:=(Mono.mono s2 r1:cM R K as v H2)
  refine ⟨l,n,xs,e,e2,q,by omega,h2,by rw [z.length];exact hl,fun p hp=>k _ _ (cD (s1.trans s2) hp) ⟨p,_,rfl,(s.trans (s1.trans s2)).free hp,aj,?_⟩⟩
  have rep:∀ m:Nat,All R K H2 (List.replicate m xs).flatten (List.replicate m as).flatten:=by
   intro m
   induction m with
   | zero=>exact .nil
   | succ m ih=>
    rw [List.replicate_succ,List.replicate_succ,List.flatten_cons,List.flatten_cons]
    exact z.append ih
  exact (rep _).mono (a8 hp)
theorem abe {ns:List Int}{m:Int}(hc:X.calm=true)(h:PX X σ H0 a (cL cI X.K ns))(h1:m∈ns)(h2:∀ y∈ns,y<=m)(hm:X.mg "max"=none)(hv:bootBuiltins "max"=some (.builtin "max"))(hg:Gl X "max":=by rfl)(hs:starEach [a] X.env=(false,eval a X.env)::starEach [] X.env:=by rfl):
  PX X σ H0 (.Call (.Name "max" p) [a] [] pos) (cI X.K m):=
 bp (hU (adQ hc) hg hm hv (aq ah be hs) (by decide) (by decide) hs rfl) fun H s Q k=>h H s _ fun v H1 s1 ⟨l,xs,e,q,z⟩=>by
  rw [z.ints] at q
  refine ⟨l,ns,by rw [e],q,List.length_pos_of_mem h1,fun m' q1 q2=>k _ H1 s1 ?_⟩
  have:m'=m:=Int.le_antisymm (h2 m' q1) (q2 m h1)
  rw [this]
  rfl
theorem yp {ns:List Int}{m:Int}(hc:X.calm=true)(h:PX X σ H0 a (cL cI K ns))(h1:m∈ns)(h2:∀ y∈ns,y<=m)(hm:X.mg "max"=none)(hv:bootBuiltins "max"=some (.builtin "max"))(hg:Gl X "max":=by rfl)(hs:starEach [a] X.env=(false,eval a X.env)::starEach [] X.env:=by rfl)(hK:X.K=K:=by rfl):
  PX X σ H0 (.Call (.Name "max" p) [a] [] pos) (cI K m):=by
 subst hK
 exact abe hc h h1 h2 hm hv hg hs
theorem abn {k i:Nat}{x:Str}{f:Addr}{fd:FuncData}{ps:List Str}{sp:Sp}{t:TA}(F:eI X.prog X.w X.K X.mg X.base CX0 k f fd ps sp)(hr:Room k X.A)(hk:PySem.W.keepIn X.K (.ref f)=true)(hb:Binds X.K fd ps [])(ha:PA X (e::es) t)(hN:X.N[i]?=some x)
  (hv:Vis X.env.scope x)(hd:(x == ("__debug__":Str))=false:=by decide)(hcd:(x == ("__classdict__":Str))=false:=by decide)
  (he:starEach (e::es) X.env=(false,eval e X.env)::starEach es X.env:=by rfl)(hpl:(backTo pos (starEach es X.env)).any (·.1)=false:=by rfl):
  PE X (.Call (.Name x p) (e::es) [] pos) (fun σ H Q=>σ[i]?=some (some (.ref f))/\t σ H fun vs H1=>sp vs H1 Q E0):=by
 intro pins s σ H Q I h
 obtain ⟨h1,h2⟩:=h
 refine wpAny_Call_Name_kw (thn (abq hN hv hd hcd pins s σ H (fun v H'=>v=.ref f/\t σ H' fun vs H1=>sp vs H1 Q E0) I ⟨_,h1,rfl,h2⟩) fun u s0 ⟨v,Hv,I0,r0,e0,q0⟩=>?_)
 subst e0
 cases r0
 refine PySem.W.callWith_K (h₀:=X.base) I.ok.mod.kin hk (thn (ha pos pins s0 σ Hv _ I0 q0) fun us s1 ⟨vs,H1,I1,r,q⟩=>⟨I1.kIn,?_⟩) he hpl
 exact uk (dvs:=[]) (ds:=[]) F hr hb .nil pass0 I1 r (by rw [List.append_nil];exact q)
end
end Bq
set_option maxHeartbeats 2000000
namespace Bq
open PySem PySem.Spec PyProof.Rows L2
section
variable {X:Cx}{σ:L2.St}{H0 H:Hp}{e a b c o iter elt:Expr}{pos p tpos tp tp2 cpos pe:Pos}{α β γ:Type}{R:Rp α}{S:Rp β}{U:Rp γ}{K:PySem.W.Frag}{scope:Scope}{x y:Str}
theorem jD {α β:Type}(as:List α)(f:Nat->β)(g:α->β)(h:∀ i d,as[i]?=some d->f i=g d):(List.range as.length).map f=as.map g:=by
 apply List.ext_getElem
 ·simp
 ·intro i h1 h2
  have hi:i < as.length:=by simpa using h2
  rw [List.getElem_map,List.getElem_map,List.getElem_range]
  exact h i _ (List.getElem?_eq_getElem hi)
theorem cg {cl:List (Str×Addr)}{C:Addr}{env:Env}(h:scope.names.lookup x=some .local):(compEnvC scope cl C env).scope.names.lookup x=some .local:=lookup_relabel_local h
theorem eU [Mono R][Mono S][Frz S]{as:List α}(d0:β)(v:Nat)(gs:α->β)(hc:X.calm=true)(hN:X.N.Nodup)(hi:PX X σ H0 iter (cL R K as))(hn:as.length < sizeLine)
  (hel:∀ (i:Nat) (d:α),as[i]?=some d->∀ u H,Same H0 H->R K d u H->PB X scope ((wipe σ [v]).set v (some u)) H elt (S K (gs d)))
  (hv:X.N[v]?=some x:=by rfl)(ok:wB X.N X.env.scope scope [(x,v)]=true:=by kernel_rfl)(hlo:scope.names.lookup x=some .local:=by rfl)(hs:∀ x,foldedSetIterable iter X.env x=pure x:=by intro _;rfl)(hK:X.K=K:=by rfl):
  PX X σ H0 (.ListComp elt [⟨.Name x tp,iter,[],0⟩] scope pos) (cF H0 S K (as.map gs)):=by
 rw [<-jD as (fun i=>(as[i]?.map gs).getD d0) gs fun i d h=>by rw [h];rfl]
 refine abv (K:=K) (S:=S) (g:=cH v) (Y:=yH R K as) (own:=[(x,v)]) (fun i=>(as[i]?.map gs).getD d0) hc hN (xT (K:=K) hi hK) (ic ok) (fun _ _ _ _ _=>bg hN hv (.inl (cg hlo)) (.inr (cg hlo))) hn ?_ hs
 rintro i hi' u H' s' ⟨d,hd,r⟩
 refine ⟨_,fun Q q=>q,?_,?_⟩
 ·show ((((wipe σ []).set v none).set v (some u)).set v none)=((wipe σ []).set v none)
  rw [List.set_set,List.set_set]
 ·rw [hd]
  exact hel i d hd u H' s' r
theorem aea [Mono R][Mono S][Frz S][Mono U]{as:List α}{cs:List γ}{kl kr:Bool}(d0:β)(v v2:Nat)(gs:α->γ->β)(hc:X.calm=true)(hN:X.N.Nodup)(ha:PX X σ H0 a (cK kl R K as))(hb:PX X σ H0 b (cK kr U K cs))(hn:min as.length cs.length < sizeLine)
  (hel:∀ (i:Nat) (d:α) (f:γ),as[i]?=some d->cs[i]?=some f->∀ u t H,Same H0 H->R K d u H->U K f t H->PB X scope (((wipe σ [v,v2]).set v (some u)).set v2 (some t)) H elt (S K (gs d f)))(hm:X.mg "zip"=none)(hvv:v≠v2)
  (hg:Gl X "zip":=by rfl)(hv:X.N[v]?=some x:=by rfl)(hv2:X.N[v2]?=some y:=by rfl)(ok:wB X.N X.env.scope scope [(x,v),(y,v2)]=true:=by kernel_rfl)(hlo:scope.names.lookup x=some .local:=by rfl)(hlo2:scope.names.lookup y=some .local:=by rfl){kk:Nat}
  (hs1:starEach [a,b] X.env=(false,eval a X.env)::starEach [b] X.env:=by rfl)(hs2:starEach [b] X.env=(false,eval b X.env)::starEach [] X.env:=by rfl)(hpl:(backTo cpos (starEach [b] X.env)).any (·.1)=false:=by rfl)
  (hn2:∀ env,(assignEach [.Name x tp,.Name y tp2] env).length=2:=by intro _;rfl)(hst:∀ env,(assignEach [.Name x tp,.Name y tp2] env).findIdx? (·.1)=none:=by intro _;rfl)(hp1:∀ env,(assignEach [.Name x tp,.Name y tp2] env).map (·.2)=assign (.Name x tp) env::(assignEach [.Name y tp2] env).map (·.2):=by intro _;rfl)(hp2:∀ env,(assignEach [.Name y tp2] env).map (·.2)=assign (.Name y tp2) env::(assignEach [] env).map (·.2):=by intro _;rfl)
  (hs:∀ x,foldedSetIterable (.Call (.Name "zip" pe) [a,b] [] cpos) X.env x=pure x:=by intro _;rfl)(hK:X.K=K:=by rfl):
  PX X σ H0 (.ListComp elt [⟨.Tuple [.Name x tp,.Name y tp2] kk tpos,.Call (.Name "zip" pe) [a,b] [] cpos,[],0⟩] scope pos) (cF H0 S K ((as.zip cs).map fun z=>gs z.1 z.2)):=by
 have e:(as.zip cs).map (fun z=>gs z.1 z.2)=(List.range (min as.length cs.length)).map fun i=>((as.zip cs)[i]?.map fun z=>gs z.1 z.2).getD d0:=by
  have q:=jD (as.zip cs) (fun i=>((as.zip cs)[i]?.map fun z=>gs z.1 z.2).getD d0) (fun z=>gs z.1 z.2) fun i d h=>by rw [h];rfl
  rw [List.length_zip] at q
  exact q.symm
 rw [e]
 subst hK
 refine abv (K:=X.K) (S:=S) (g:=xn X.K 2 (hG (cH v) (hG (cH v2) xu))) (Y:=wH R U X.K as cs) (own:=[(x,v),(y,v2)]) (fun i=>((as.zip cs)[i]?.map fun z=>gs z.1 z.2).getD d0) hc hN (yK (K:=X.K) (kl:=kl) (kr:=kr) ha hb hm hg hs1 hs2 hpl) (ic ok)
  (fun _ _ _ _ _=>jd hc (bE (bg hN hv (.inl (cg hlo)) (.inr (cg hlo))) (bE (bg hN hv2 (.inl (cg hlo2)) (.inr (cg hlo2))) gN (hp2 _)) (hp1 _)) (hn2 _) (hst _)) hn ?_ hs
 rintro i hi' u H' s' ⟨T,u1,u2,d,f,rfl,hT,hd,hf,r1,r2⟩
 refine ⟨_,fun Q q=>⟨T,[u1,u2],rfl,SqT.of hT,rfl,u1,[u2],rfl,u2,[],rfl,rfl,q⟩,?_,?_⟩
 ·show ((((((wipe σ []).set v2 none).set v none).set v (some u1)).set v2 (some u2)).set v2 none).set v none=((wipe σ []).set v2 none).set v none
  rw [List.set_set,List.set_set,List.set_comm _ _ hvv,List.set_set,List.set_set]
 ·have ez:(as.zip cs)[i]?=some (d,f):=by rw [List.getElem?_zip_eq_some];exact ⟨hd,hf⟩
  rw [ez]
  exact hel i d f hd hf u1 u2 H' s' r1 r2
theorem aaO [Mono S][Frz S]{i j d:Int}{n:Nat}(v:Nat)(gs:Nat->β)(hc:X.calm=true)(hN:X.N.Nodup)(h1:PX X σ H0 a (cI K i))(h2:PX X σ H0 b (cI K j))(h3:PX X σ H0 c (cI K d))(hr:RgC i j d n)(hn:n < sizeLine)
  (hel:∀ t,t < n->∀ H,Same H0 H->PB X scope ((wipe σ [v]).set v (some (.int (i+(t:Nat) * d)))) H elt (S K (gs t)))(hm:X.mg "range"=none)
  (hv:X.N[v]?=some x:=by rfl)(ok:wB X.N X.env.scope scope [(x,v)]=true:=by kernel_rfl)(hlo:scope.names.lookup x=some .local:=by rfl)(hg:Gl X "range":=by rfl)
  (hs1:starEach [a,b,c] X.env=(false,eval a X.env)::starEach [b,c] X.env:=by rfl)(hs2:starEach [b,c] X.env=(false,eval b X.env)::starEach [c] X.env:=by rfl)(hs3:starEach [c] X.env=(false,eval c X.env)::starEach [] X.env:=by rfl)(hpl:(backTo cpos (starEach [b,c] X.env)).any (·.1)=false:=by rfl)
  (hs:∀ x,foldedSetIterable (.Call (.Name "range" pe) [a,b,c] [] cpos) X.env x=pure x:=by intro _;rfl):
  PX X σ H0 (.ListComp elt [⟨.Name x tp,.Call (.Name "range" pe) [a,b,c] [] cpos,[],0⟩] scope pos) (cF H0 S K ((List.range n).map gs)):=by
 refine abv (K:=K) (S:=S) (g:=cH v) (Y:=oy i d) (own:=[(x,v)]) gs hc hN (pB (K:=K) h1 h2 h3 hr hm hg hs1 hs2 hs3 hpl) (ic ok) (fun _ _ _ _ _=>bg hN hv (.inl (cg hlo)) (.inr (cg hlo))) hn ?_ hs
 rintro t ht u H' s' e
 refine ⟨_,fun Q q=>q,?_,?_⟩
 ·show ((((wipe σ []).set v none).set v (some u)).set v none)=((wipe σ []).set v none)
  rw [List.set_set,List.set_set]
 ·have e:u=.int (i+(t:Nat) * d):=e
  rw [e]
  exact hel t ht H' s'
end
end Bq
set_option maxHeartbeats 2000000
namespace Bq
open PySem PySem.Spec PyProof.Rows L2
theorem yN {α:Type}(l:List α)(a b:Nat):cut l (some (a:Int)) (some (b:Int))=(l.take b).drop a:=by
 unfold cut
 rw [HT.sIx_nat,HT.sIx_nat,List.drop_take]
 by_cases h:a<=l.length
 ·rw [Nat.min_eq_left h]
  by_cases h2:b<=l.length
  ·rw [Nat.min_eq_left h2]
  ·rw [Nat.min_eq_right (by omega),List.take_of_length_le (by simp),List.take_of_length_le (by simp;omega)]
 ·rw [List.drop_eq_nil_of_le (i:=a) (by omega),List.drop_eq_nil_of_le (i:=min a l.length) (by omega),List.take_nil,List.take_nil]
theorem ik {α:Type}(l:List α)(a:Nat):cut l (some (a:Int)) none=l.drop a:=by
 unfold cut
 rw [HT.sIx_nat,HT.sIx_none]
 by_cases h:a<=l.length
 ·rw [Nat.min_eq_left h,List.take_of_length_le (by simp)]
 ·rw [Nat.min_eq_right (by omega),List.drop_length,List.drop_eq_nil_of_le (i:=a) (by omega),List.take_nil]
theorem qM {α:Type}(l:List α)(b:Nat):cut l none (some (b:Int))=l.take b:=by
 unfold cut
 rw [HT.sIx_nat,HT.sIx_none,List.drop_zero,Nat.sub_zero]
 by_cases h:b<=l.length
 ·rw [Nat.min_eq_left h]
 ·rw [Nat.min_eq_right (by omega),List.take_length,List.take_of_length_le (by omega)]
theorem aaV {α:Type}(l:List α):cut l (some (-1)) none=l.drop (l.length - 1):=by
 unfold cut
 have e:HT.sIx l.length 0 (some (-1))=l.length - 1:=by
  unfold HT.sIx
  simp only
  rw [if_pos (by decide)]
  omega
 rw [HT.sIx_none,e,List.take_of_length_le (by simp)]
def cA (D:Addr){α:Type}(R:Rp α):Rp (List α):=fun K as v H=>∃ p xs,v=.ref p/\p≠D/\H p=some (.lst xs)/\All R K H xs as
section
variable {X:Cx}{σ:L2.St}{H0 H:Hp}{e a b c o iter elt tg:Expr}{pos p tpos tp tp2 cpos pe:Pos}{α β γ:Type}{R:Rp α}{S:Rp β}{U:Rp γ}{K:PySem.W.Frag}{scope:Scope}{x y:Str}
theorem cA.put [Frz R]{D:Addr}{acc acc':List V}{as:List α}{v:V}(h:H D=some (.lst acc))(q:cA D R K as v H):cA D R K as v (upd H D (.lst acc')):=by
 obtain ⟨p,xs,e,n,z,r⟩:=q
 exact ⟨p,xs,e,n,by rw [am n];exact z,r.put h⟩
theorem cA.later [Mono R]{D:Addr}{H':Hp}{as:List α}{v:V}(s:Same H H')(q:cA D R K as v H):cA D R K as v H':=by
 obtain ⟨p,xs,e,n,z,r⟩:=q
 exact ⟨p,xs,e,n,s _ _ z,r.mono s⟩
theorem aa4 {wi:TI}{g:TG}{n:Nat}{Y:Nat->VK}{vs:List Nat}{te:TE}[Mono R][Frz R]{gs:Nat->List α}{Q:VK}{H:Hp}(s:Same H0 H)
  (hw:∀ H,Same H0 H->∀ R:It->Hp->Prop,(∀ J H1,Same H H1->Walk J H1 n Y->R J H1)->wi σ H R)(hn:n < sizeLine)
  (hel:∀ i,i < n->∀ x H,Same H0 H->Y i x H->∃ σ2,(∀ Q:L2.St->Hp->Prop,Q σ2 H->g x (wipe σ vs) H Q)/\wipe σ2 vs=wipe σ vs/\∀ H1,Same H H1->∀ Q:VK,(∀ v H',Same H1 H'->cF H R K (gs i) v H'->Q v H')->te σ2 H1 Q)
  (k:∀ v H',Same H H'->cF H0 (cM R) K ((List.range n).map gs) v H'->Q v H'):tLc wi g w6 te vs σ H Q:=by
 refine hw H s _ fun J H1 s1 W D hD=>?_
 refine ⟨fun i m H'=>m=n - i/\i<=n/\Same H1 H'/\∃ acc,H' D=some (.lst acc)/\All (cA D R) K H' acc ((List.range i).map gs),⟨n,by simp,Nat.zero_le _,a8 hD,[],aj,.nil⟩,?_⟩
 rintro i m H2 ⟨rfl,hi,s2,acc,hacc,hall⟩
 by_cases hlt:i < n
 ·refine .inr ⟨W.go H2 s2 i hlt,fun H'=>i+1<=n/\Same H1 H'/\∃ acc,H' D=some (.lst acc)/\All (cA D R) K H' acc ((List.range (i+1)).map gs),fun H' h'=>⟨n - (i+1),by omega,rfl,h'⟩,fun x H3 y=>?_⟩
  obtain ⟨s3,hy⟩:=W.yld H2 s2 i hlt x H3 y
  obtain ⟨σ2,hg,hwipe,he⟩:=hel i hlt x H3 (s.trans (s1.trans (s2.trans s3))) hy
  refine hg _ ⟨hwipe,?_⟩
  unfold w6
  refine aeC ?_
  refine he H3 (bi H3) _ fun v H4 s4 hv=>⟨acc,s4 _ _ (s3 _ _ hacc),?_,hlt,bK (s2.trans (s3.trans s4)) hD,acc++[v],aj,?_⟩
  ·have:=hall.length
   rw [List.length_map,List.length_range] at this
   omega
  ·have h4:H4 D=some (.lst acc):=s4 _ _ (s3 _ _ hacc)
   obtain ⟨p,xs,e1,n1,z1,r1⟩:=hv
   have hne:p≠D:=fun q=>by
    rw [q,s3 _ _ hacc] at n1
    cases n1
   have hall4:All (cA D R) K (upd H4 D (.lst (acc++[v]))) acc ((List.range i).map gs):=Paired.mapP hall fun _ _ z=>(z.later (s3.trans s4)).put h4
   rw [List.range_succ,List.map_append]
   exact hall4.append (.cons (cA.put h4 ⟨p,xs,e1,hne,z1,r1⟩) .nil)
 ·have e:i=n:=by omega
  subst e
  exact .inl ⟨W.stop H2 s2,k _ H2 (s1.trans s2) ⟨D,acc,rfl,(s.trans s1).free hD,hacc,Paired.mapP hall fun _ _ ⟨p,xs,e,_,z,r⟩=>⟨p,xs,e,z,r⟩⟩⟩
theorem ad6 {g:TG}{n:Nat}{Y:Nat->VK}{own:List (Str×Nat)}[Mono R][Frz R](gs:Nat->List α)(hc:X.calm=true)(hN:X.N.Nodup)(hi:PIX X σ H0 tg iter n Y)(ok:m4 X.N X.env.scope scope own)
  (hg:∀ (s:Shared) (H:Hp) (C:Addr) (cl:List (Str×Addr)) (fp:List Addr),PG (X.blk s H scope (compEnvC scope cl C X.env) fp) tg g)(hn:n < sizeLine)
  (hel:∀ i,i < n->∀ x H,Same H0 H->Y i x H->∃ σ2,(∀ Q:L2.St->Hp->Prop,Q σ2 H->g x (wipe σ (own.map (·.2))) H Q)/\wipe σ2 (own.map (·.2))=wipe σ (own.map (·.2))/\PB X scope σ2 H elt (cF H R K (gs i)))
  (hs:∀ x,foldedSetIterable iter X.env x=pure x:=by intro _;rfl):PX X σ H0 (.ListComp elt [⟨tg,iter,[],0⟩] scope pos) (cF H0 (cM R) K ((List.range n).map gs)):=by
 obtain ⟨wi,h1,h2⟩:=hi
 refine bp (adC (te:=fun σ H Q=>∀ (s:Shared) (H':Hp) (C:Addr) (cl:List (Str×Addr)) (fp:List Addr),EX (X.blk s H' scope (compEnvC scope cl C X.env) fp) elt σ H Q) hc hN h1 ok hg (fun _ _ _ _ _=>oP) (fun s H C cl fp=>fun pins s' σ H' Q I h=>h s H C cl fp pins s' I) hs)
  fun H s Q k=>aa4 s h2 hn (fun i hi x H' s' y=>?_) k
 obtain ⟨σ2,q1,q2,q3⟩:=hel i hi x H' s' y
 exact ⟨σ2,q1,q2,fun H1 s1 Q kq s0 H0' C cl fp=>q3 s0 H0' C cl fp H1 s1 Q kq⟩
theorem acT [Mono R][Frz R]{i j d:Int}{n:Nat}(v:Nat)(gs:Nat->List α)(hc:X.calm=true)(hN:X.N.Nodup)(h1:PX X σ H0 a (cI K i))(h2:PX X σ H0 b (cI K j))(h3:PX X σ H0 c (cI K d))(hr:RgC i j d n)(hn:n < sizeLine)
  (hel:∀ t,t < n->∀ H,Same H0 H->PB X scope ((wipe σ [v]).set v (some (.int (i+(t:Nat) * d)))) H elt (cF H R K (gs t)))(hm:X.mg "range"=none)
  (hv:X.N[v]?=some x:=by rfl)(ok:wB X.N X.env.scope scope [(x,v)]=true:=by kernel_rfl)(hlo:scope.names.lookup x=some .local:=by rfl)(hg:Gl X "range":=by rfl)
  (hs1:starEach [a,b,c] X.env=(false,eval a X.env)::starEach [b,c] X.env:=by rfl)(hs2:starEach [b,c] X.env=(false,eval b X.env)::starEach [c] X.env:=by rfl)(hs3:starEach [c] X.env=(false,eval c X.env)::starEach [] X.env:=by rfl)(hpl:(backTo cpos (starEach [b,c] X.env)).any (·.1)=false:=by rfl)
  (hs:∀ x,foldedSetIterable (.Call (.Name "range" pe) [a,b,c] [] cpos) X.env x=pure x:=by intro _;rfl):
  PX X σ H0 (.ListComp elt [⟨.Name x tp,.Call (.Name "range" pe) [a,b,c] [] cpos,[],0⟩] scope pos) (cF H0 (cM R) K ((List.range n).map gs)):=by
 refine ad6 (K:=K) (R:=R) (g:=cH v) (Y:=oy i d) (own:=[(x,v)]) gs hc hN (pB (K:=K) h1 h2 h3 hr hm hg hs1 hs2 hs3 hpl) (ic ok) (fun _ _ _ _ _=>bg hN hv (.inl (cg hlo)) (.inr (cg hlo))) hn ?_ hs
 rintro t ht u H' s' e
 refine ⟨_,fun Q q=>q,?_,?_⟩
 ·show ((((wipe σ []).set v none).set v (some u)).set v none)=((wipe σ []).set v none)
  rw [List.set_set,List.set_set]
 ·have e:u=.int (i+(t:Nat) * d):=e
  rw [e]
  exact hel t ht H' s'
end
end Bq
set_option maxHeartbeats 2000000
namespace Bq
open PySem PySem.Spec PyProof.Rows L2
def cV:Rp V:=fun _ u v _=>v=u
instance:Mono cV:=⟨fun _ h=>h⟩
section
variable {X:Cx}{σ:L2.St}{H0 H:Hp}{e a b c o iter tg:Expr}{es:List Expr}{pos p p2 apos cpos tpos:Pos}{α β γ δ:Type}{R:Rp α}{S:Rp β}{K:PySem.W.Frag}{P:VK}{D:Ends}{rest body:List Stmt}
theorem acI {D':Ends}{sts:List Stmt}(h:SX X D sts σ H)(h1:∀ σ H,D.nx σ H->D'.nx σ H)(h2:∀ v H,D.rt v H->D'.rt v H)(h3:∀ σ H,D.bk σ H->D'.bk σ H)(h4:∀ σ H,D.ct σ H->D'.ct σ H):SX X D' sts σ H:=fun pins s I=>
 wpAny_mono (h pins s I) (fun fl s' q=>by
  cases fl with
  | ret u=>obtain ⟨v,σ',H',J,rv,q⟩:=q;exact ⟨v,σ',H',J,rv,h2 _ _ q⟩
  | next=>obtain ⟨σ',H',J,q⟩:=q;exact ⟨σ',H',J,h1 _ _ q⟩
  | brk=>obtain ⟨σ',H',J,q⟩:=q;exact ⟨σ',H',J,h3 _ _ q⟩
  | cont=>obtain ⟨σ',H',J,q⟩:=q;exact ⟨σ',H',J,h4 _ _ q⟩) fun _ _ q=>q
theorem aaW {cs:List Stmt}{d:Bool}(J:Hp->Prop)(hc:PTX X σ H c d)(ha:d=true->∀ H',Same H H'->SX X {D with nx:=fun σ' H2=>σ'=σ/\J H2} cs σ H')(hb:d=false->∀ H',Same H H'->J H')(hj:∀ H',J H'->SX X D rest σ H'):SX X D (.If c cs [] pos::rest) σ H:=
 aH hc (fun z H' s=>acI (ha z H' s) (fun σ' H2 ⟨e,q⟩=>by rw [e];exact hj H2 q) (fun _ _ q=>q) (fun _ _ q=>q) fun _ _ q=>q) fun z H' s=>hj H' (hb z H' s)
theorem aag {l:Addr}{xs:List V}{i1 i2:Nat}{elts:List Expr}{kk:Nat}{pe:Pos}(hp:PassesOwn (model X.prog X.w) X.A X.env X.xe)(hc:X.calm=true)(h:PX X σ H e (cV X.K (.ref l)))(q:SqL X.K H l xs)(hg:PG X (.Tuple elts kk tpos) (xn X.K 2 (hG (cH i1) (hG (cH i2) xu))))
  (k:∀ H1,Same H H1->∃ Pv:Nat->L2.St->Hp->Prop,Pv 0 σ H1/\(∀ i σ' H',Pv i σ' H'->SqL X.K H' l xs)/\
   (∀ i v σ' H',xs[i]?=some v->Pv i σ' H'->∀ H2,Same H' H2->(∀ b o,H2 b=some o->(∀ ys,o≠.tup ys)->H' b=some o)->SX X {D with nx:=Pv (i+1),ct:=Pv (i+1),bk:=SX X D rest} body ((σ'.set i1 (some (.int i))).set i2 (some v)) H2)/\∀ σ' H',Pv xs.length σ' H'->SX X D rest σ' H')
  (hm:X.mg "enumerate"=none) (hge:Gl X "enumerate":=by rfl) (hs:starEach [e] X.env=(false,eval e X.env)::starEach [] X.env:=by rfl) (hs1:starEach [e] X.env=[(false,eval e X.env)]:=by rfl) (hf:∀ x,foldedSetIterable (.Call (.Name "enumerate" pe) [e] [] cpos) X.env x=pure x:=by intro _;rfl):
  SX X D (.For (.Tuple elts kk tpos) (.Call (.Name "enumerate" pe) [e] [] cpos) body [] pos::rest) σ H:=by
 refine iy (T:=fun J H1=>J=Ite X.K l/\Same H H1) hp hc (ym hge hm (aq ah be hs) hs1) hg (fun R' k=>h.now fun v H1 s1 e1=>⟨l,xs,by rw [show v=.ref l from e1],s1.seq q,k _ H1 ⟨rfl,s1⟩⟩) ?_ hf
 rintro J H1 ⟨rfl,s1⟩
 obtain ⟨Pv,p0,pl,pt,pd⟩:=k H1 s1
 refine ⟨xs.length,Pv,p0,fun i σ' H' hi pv=>?_,fun σ' H' pv=>⟨⟨xs,pl _ _ _ pv,Nat.le_refl _⟩,pd σ' H' pv⟩⟩
 refine ⟨⟨xs,xs[i],pl _ _ _ pv,List.getElem?_eq_getElem hi⟩,?_⟩
 rintro v H2 ⟨T,x,rfl,hT,rfl,hy⟩
 have ex:=hy xs (pl _ _ _ pv)
 refine ⟨T,_,rfl,SqT.of aj,rfl,_,_,rfl,_,_,rfl,rfl,pt i x σ' H' ex pv _ (a8 hT) fun b o h1 h2=>?_⟩
 by_cases hb:b=T
 ·subst hb
  rw [aj] at h1
  exact absurd (Option.some.inj h1).symm (h2 _)
 ·rw [am hb] at h1
  exact h1
theorem kN {l:Addr}{xs:List V}{i1 i2:Nat}{elts:List Expr}{kk:Nat}{pe:Pos}(hp:PassesOwn (model X.prog X.w) X.A X.env X.xe)(hc:X.calm=true)(h:PX X σ H e (cV K (.ref l)))(q:SqL K H l xs)(hg:PG X (.Tuple elts kk tpos) (xn X.K 2 (hG (cH i1) (hG (cH i2) xu))))
  (k:∀ H1,Same H H1->∃ Pv:Nat->L2.St->Hp->Prop,Pv 0 σ H1/\(∀ i σ' H',Pv i σ' H'->SqL K H' l xs)/\
   (∀ i v σ' H',xs[i]?=some v->Pv i σ' H'->∀ H2,Same H' H2->(∀ b o,H2 b=some o->(∀ ys,o≠.tup ys)->H' b=some o)->SX X {D with nx:=Pv (i+1),ct:=Pv (i+1),bk:=SX X D rest} body ((σ'.set i1 (some (.int i))).set i2 (some v)) H2)/\∀ σ' H',Pv xs.length σ' H'->SX X D rest σ' H')
  (hm:X.mg "enumerate"=none) (hge:Gl X "enumerate":=by rfl) (hs:starEach [e] X.env=(false,eval e X.env)::starEach [] X.env:=by rfl) (hs1:starEach [e] X.env=[(false,eval e X.env)]:=by rfl) (hf:∀ x,foldedSetIterable (.Call (.Name "enumerate" pe) [e] [] cpos) X.env x=pure x:=by intro _;rfl) (hK:X.K=K:=by rfl):
  SX X D (.For (.Tuple elts kk tpos) (.Call (.Name "enumerate" pe) [e] [] cpos) body [] pos::rest) σ H:=by
 subst hK
 exact aag hp hc h q hg k hm hge hs hs1 hf
theorem ab6 {l:Addr}{xs:List V}{v:Nat}(hp:PassesOwn (model X.prog X.w) X.A X.env X.xe)(hc:X.calm=true)(h:PX X σ H iter (cV X.K (.ref l)))(q:SqL X.K H l xs)(hg:PG X tg (cH v))
  (k:∀ H1,Same H H1->∃ Pv:Nat->L2.St->Hp->Prop,Pv 0 σ H1/\(∀ i σ' H',Pv i σ' H'->SqL X.K H' l xs)/\
   (∀ i u σ' H',xs[i]?=some u->Pv i σ' H'->SX X {D with nx:=Pv (i+1),ct:=Pv (i+1),bk:=SX X D rest} body (σ'.set v (some u)) H')/\∀ σ' H',Pv xs.length σ' H'->SX X D rest σ' H')
  (hs:∀ x,foldedSetIterable iter X.env x=pure x:=by intro _;rfl):SX X D (.For tg iter body [] pos::rest) σ H:=by
 refine iy (T:=fun J H1=>J=Itl X.K l/\Same H H1) hp hc (tP ah) hg (fun R' k=>h.now fun u H1 s1 e1=>⟨l,e1,⟨xs,s1.seq q⟩,k _ H1 ⟨rfl,s1⟩⟩) ?_ hs
 rintro J H1 ⟨rfl,s1⟩
 obtain ⟨Pv,p0,pl,pt,pd⟩:=k H1 s1
 refine ⟨xs.length,Pv,p0,fun i σ' H' hi pv=>⟨⟨xs,xs[i],pl _ _ _ pv,List.getElem?_eq_getElem hi⟩,?_⟩,fun σ' H' pv=>⟨⟨xs,pl _ _ _ pv,Nat.le_refl _⟩,pd σ' H' pv⟩⟩
 rintro x H2 ⟨rfl,hy⟩
 exact pt i x σ' _ (hy xs (pl _ _ _ pv)) pv
theorem tS {l:Addr}{xs:List V}{v:Nat}(hp:PassesOwn (model X.prog X.w) X.A X.env X.xe)(hc:X.calm=true)(h:PX X σ H iter (cV K (.ref l)))(q:SqL K H l xs)(hg:PG X tg (cH v))
  (k:∀ H1,Same H H1->∃ Pv:Nat->L2.St->Hp->Prop,Pv 0 σ H1/\(∀ i σ' H',Pv i σ' H'->SqL K H' l xs)/\
   (∀ i u σ' H',xs[i]?=some u->Pv i σ' H'->SX X {D with nx:=Pv (i+1),ct:=Pv (i+1),bk:=SX X D rest} body (σ'.set v (some u)) H')/\∀ σ' H',Pv xs.length σ' H'->SX X D rest σ' H')
  (hs:∀ x,foldedSetIterable iter X.env x=pure x:=by intro _;rfl) (hK:X.K=K:=by rfl):SX X D (.For tg iter body [] pos::rest) σ H:=by
 subst hK
 exact ab6 hp hc h q hg k hs
end
end Bq
set_option maxHeartbeats 2000000
namespace Bq
open PySem PySem.Spec PyProof.Rows L2
section
variable {X:Cx}{σ:L2.St}{H0 H:Hp}{e a b c o iter elt tg:Expr}{pos p tpos tp tp2 cpos pe py spos:Pos}{α β γ:Type}{R:Rp α}{S:Rp β}{U:Rp γ}{K:PySem.W.Frag}{scope:Scope}{x y z:Str}{D:Ends}{rest:List Stmt}
theorem aai {g:TG}{n:Nat}{Y:Nat->VK}{own:List (Str×Nat)}[Mono S][Frz S]{i:Nat}(gs:Nat->β)(hc:X.calm=true)(hN:X.N.Nodup)(hi:PIX X σ H tg iter n Y)(ok:m4 X.N X.env.scope scope own)
  (hg:∀ (s:Shared) (H:Hp) (C:Addr) (cl:List (Str×Addr)) (fp:List Addr),PG (X.blk s H scope (compEnvC scope cl C X.env) fp) tg g)(hn:n < sizeLine)
  (hel:∀ i,i < n->∀ x H',Same H H'->Y i x H'->∃ σ2,(∀ Q:L2.St->Hp->Prop,Q σ2 H'->g x (wipe σ (own.map (·.2))) H' Q)/\wipe σ2 (own.map (·.2))=wipe σ (own.map (·.2))/\PB X scope σ2 H' elt (S K (gs i)))
  (k:∀ v H',Same H H'->cF H S K ((List.range n).map gs) v H'->SX X D rest (σ.set i (some v)) H')(hy:X.N[i]?=some y)(hyl:X.env.scope.names.lookup y=some .local)(hsw:swapsWith (.ListComp elt [⟨tg,iter,[],0⟩] scope pos) (some (.Name y py)) spos.line X.env=pure true)
  (hs:∀ x,foldedSetIterable iter X.env x=pure x):SX X D (.Assign [.Name y py] (.ListComp elt [⟨tg,iter,[],0⟩] scope pos) spos::rest) σ H:=by
 obtain ⟨wi,h1,h2⟩:=hi
 refine bh (vS (te:=fun σ H Q=>∀ (s:Shared) (H':Hp) (C:Addr) (cl:List (Str×Addr)) (fp:List Addr),EX (X.blk s H' scope (compEnvC scope cl C X.env) fp) elt σ H Q) hc hN hy hyl hsw h1 ok hg (fun _ _ _ _ _=>oP) (fun s H C cl fp=>fun pins s' σ H' Q I h=>h s H C cl fp pins s' I) hs)
  (yJ (bi H) h2 hn (fun i hi x H' s' y=>?_) k)
 obtain ⟨σ2,q1,q2,q3⟩:=hel i hi x H' s' y
 exact ⟨σ2,q1,q2,fun H1 s1 Q kq s0 H0' C cl fp=>q3 s0 H0' C cl fp H1 s1 Q kq⟩
theorem yX [Mono R][Mono S][Frz S][Mono U]{as:List α}{cs:List γ}{kl kr:Bool}{i:Nat}(d0:β)(v v2:Nat)(gs:α->γ->β)(hc:X.calm=true)(hN:X.N.Nodup)(ha:PX X σ H a (cK kl R K as))(hb:PX X σ H b (cK kr U K cs))(hn:min as.length cs.length < sizeLine)
  (hel:∀ (i:Nat) (d:α) (f:γ),as[i]?=some d->cs[i]?=some f->∀ u t H',Same H H'->R K d u H'->U K f t H'->PB X scope (((wipe σ [v,v2]).set v (some u)).set v2 (some t)) H' elt (S K (gs d f)))(hm:X.mg "zip"=none)(hvv:v≠v2)
  (k:∀ u H',Same H H'->cF H S K ((as.zip cs).map fun z=>gs z.1 z.2) u H'->SX X D rest (σ.set i (some u)) H')
  (hzy:X.N[i]?=some z:=by rfl)(hzl:X.env.scope.names.lookup z=some .local:=by rfl)(hkd:X.env.scope.kind=.function:=by rfl)(hln:(py.line == pos.line)=true:=by rfl)(han:(scope.names.any fun (n,k)=>n == z&&(k == .local || k == .cell))=false:=by decide +kernel)
  (hg:Gl X "zip":=by rfl)(hv:X.N[v]?=some x:=by rfl)(hv2:X.N[v2]?=some y:=by rfl)(ok:wB X.N X.env.scope scope [(x,v),(y,v2)]=true:=by kernel_rfl)(hlo:scope.names.lookup x=some .local:=by rfl)(hlo2:scope.names.lookup y=some .local:=by rfl){kk:Nat}
  (hs1:starEach [a,b] X.env=(false,eval a X.env)::starEach [b] X.env:=by rfl)(hs2:starEach [b] X.env=(false,eval b X.env)::starEach [] X.env:=by rfl)(hpl:(backTo cpos (starEach [b] X.env)).any (·.1)=false:=by rfl)
  (hn2:∀ env,(assignEach [.Name x tp,.Name y tp2] env).length=2:=by intro _;rfl)(hst:∀ env,(assignEach [.Name x tp,.Name y tp2] env).findIdx? (·.1)=none:=by intro _;rfl)(hp1:∀ env,(assignEach [.Name x tp,.Name y tp2] env).map (·.2)=assign (.Name x tp) env::(assignEach [.Name y tp2] env).map (·.2):=by intro _;rfl)(hp2:∀ env,(assignEach [.Name y tp2] env).map (·.2)=assign (.Name y tp2) env::(assignEach [] env).map (·.2):=by intro _;rfl)
  (hs:∀ x,foldedSetIterable (.Call (.Name "zip" pe) [a,b] [] cpos) X.env x=pure x:=by intro _;rfl)(hK:X.K=K:=by rfl):
  SX X D (.Assign [.Name z py] (.ListComp elt [⟨.Tuple [.Name x tp,.Name y tp2] kk tpos,.Call (.Name "zip" pe) [a,b] [] cpos,[],0⟩] scope pos) spos::rest) σ H:=by
 have e:(as.zip cs).map (fun z=>gs z.1 z.2)=(List.range (min as.length cs.length)).map fun i=>((as.zip cs)[i]?.map fun z=>gs z.1 z.2).getD d0:=by
  have q:=jD (as.zip cs) (fun i=>((as.zip cs)[i]?.map fun z=>gs z.1 z.2).getD d0) (fun z=>gs z.1 z.2) fun i d h=>by rw [h];rfl
  rw [List.length_zip] at q
  exact q.symm
 rw [e] at k
 subst hK
 refine aai (K:=X.K) (S:=S) (g:=xn X.K 2 (hG (cH v) (hG (cH v2) xu))) (Y:=wH R U X.K as cs) (own:=[(x,v),(y,v2)]) (fun i=>((as.zip cs)[i]?.map fun z=>gs z.1 z.2).getD d0) hc hN (yK (K:=X.K) (kl:=kl) (kr:=kr) ha hb hm hg hs1 hs2 hpl) (ic ok)
  (fun _ _ _ _ _=>jd hc (bE (bg hN hv (.inl (cg hlo)) (.inr (cg hlo))) (bE (bg hN hv2 (.inl (cg hlo2)) (.inr (cg hlo2))) gN (hp2 _)) (hp1 _)) (hn2 _) (hst _)) hn ?_ k hzy hzl (xU hkd hzl hln han) hs
 rintro i hi' u H' s' ⟨T,u1,u2,d,f,rfl,hT,hd,hf,r1,r2⟩
 refine ⟨_,fun Q q=>⟨T,[u1,u2],rfl,SqT.of hT,rfl,u1,[u2],rfl,u2,[],rfl,rfl,q⟩,?_,?_⟩
 ·show ((((((wipe σ []).set v2 none).set v none).set v (some u1)).set v2 (some u2)).set v2 none).set v none=((wipe σ []).set v2 none).set v none
  rw [List.set_set,List.set_set,List.set_comm _ _ hvv,List.set_set,List.set_set]
 ·have ez:(as.zip cs)[i]?=some (d,f):=by rw [List.getElem?_zip_eq_some];exact ⟨hd,hf⟩
  rw [ez]
  exact hel i d f hd hf u1 u2 H' s' r1 r2
end
end Bq
set_option maxHeartbeats 2000000
namespace Bq
open PySem PySem.Spec PyProof.Rows L2
def spH {α:Type}(K:PySem.W.Frag)(A:Ra α)(pre:α->Prop)(S:Hp->α->VK):Sp:=fun vs H Q _=>∃ d,A K d vs H/\pre d/\∀ v H',Same H H'->S H d v H'->Q v H'
section
variable {X:Cx}{σ:L2.St}{H0 H:Hp}{e a b c o iter elt tg:Expr}{es:List Expr}{pos p tpos tp tp2 cpos pe py spos apos:Pos}{α β γ:Type}{R:Rp α}{S:Rp β}{K:PySem.W.Frag}{scope:Scope}{x y z:Str}{D:Ends}{rest body:List Stmt}
theorem xq {x:Str}{k:Nat}{A:Ra γ}{pre:γ->Prop}{g:γ->List α}{d:γ}{y:List α}(C:Cal X.prog X.w X.K X.mg X.base x k (spH K A pre fun H d=>cF H R K (g d)))(hr:Room k X.A)(ha:PAX X σ H0 (e::es) (A K d))(hp:pre d)(hy:g d=y:=by rfl)(hg:Gl X x:=by rfl)(hdb:(x == ("__debug__":Str))=false:=by decide)
  (he:starEach (e::es) X.env=(false,eval e X.env)::starEach es X.env:=by rfl)(hpl:(backTo pos (starEach es X.env)).any (·.1)=false:=by rfl):PX X σ H0 (.Call (.Name x p) (e::es) [] pos) (cF H0 R K y):=by
 obtain ⟨f,fd,ps,hm,hk,hb,F⟩:=C.ex
 subst hy
 obtain ⟨t,h1,h2⟩:=ha
 refine bp (yq (E:=E0) (dvs:=[]) F hr hg hm hk hb .nil pass0 h1 hdb he hpl) fun H s Q k=>h2 H s _ fun vs H1 s1 q=>?_
 show spH K A pre _ (vs++[]) H1 Q E0
 rw [List.append_nil]
 exact ⟨d,q,hp,fun v H' s' ⟨p,xs,e1,n,e2,z⟩=>k v H' (s1.trans s') ⟨p,xs,e1,(s.trans s1).free n,e2,z⟩⟩
theorem ac1 {as:List α}{v:Nat}(hp:PassesOwn (model X.prog X.w) X.A X.env X.xe)(hc:X.calm=true)(hi:PX X σ H iter (cF H R K as))(hg:PG X tg (cH v))
  (k:∀ H1 l xs,Same H H1->H l=none->H1 l=some (.lst xs)->All R K H1 xs as->∃ Pv:Nat->L2.St->Hp->Prop,Pv 0 σ H1/\(∀ i σ' H',Pv i σ' H'->H' l=some (.lst xs))/\
   (∀ i d u σ' H',as[i]?=some d->xs[i]?=some u->Pv i σ' H'->SX X {D with nx:=Pv (i+1),ct:=Pv (i+1),bk:=SX X D rest} body (σ'.set v (some u)) H')/\∀ σ' H',Pv as.length σ' H'->SX X D rest σ' H')
  (hs:∀ x,foldedSetIterable iter X.env x=pure x:=by intro _;rfl):SX X D (.For tg iter body [] pos::rest) σ H:=by
 refine iy (T:=fun J H1=>∃ l xs,J=Itl X.K l/\Same H H1/\H l=none/\H1 l=some (.lst xs)/\All R K H1 xs as) hp hc (tP ah) hg (fun R' k=>hi.now fun u H1 s1 ⟨l,xs,e1,n,q,z⟩=>⟨l,e1,⟨xs,SqL.of q⟩,k _ H1 ⟨l,xs,rfl,s1,n,q,z⟩⟩) ?_ hs
 rintro J H1 ⟨l,xs,rfl,s1,n,q,z⟩
 obtain ⟨Pv,p0,pl,pt,pd⟩:=k H1 l xs s1 n q z
 refine ⟨as.length,Pv,p0,fun i σ' H' hi pv=>?_,fun σ' H' pv=>⟨⟨xs,SqL.of (pl _ _ _ pv),by rw [z.length];exact Nat.le_refl _⟩,pd σ' H' pv⟩⟩
 have hx:i < xs.length:=by rw [z.length];exact hi
 refine ⟨⟨xs,xs[i],SqL.of (pl _ _ _ pv),List.getElem?_eq_getElem hx⟩,?_⟩
 rintro u H2 ⟨rfl,hy⟩
 exact pt i as[i] u σ' _ (List.getElem?_eq_getElem hi) (hy xs (SqL.of (pl _ _ _ pv))) pv
theorem acF {bs:List β}{l:Addr}{xs:List V}[Mono S]{i1 i2:Nat}{elts:List Expr}{kk:Nat}(hp:PassesOwn (model X.prog X.w) X.A X.env X.xe)(hc:X.calm=true)(h:PX X σ H a (cV K (.ref l)))(hq:H l=some (.lst xs))(h':PX X σ H b (cF H S K bs))(hl:xs.length=bs.length)
  (hg:PG X (.Tuple elts kk tpos) (xn X.K 2 (hG (cH i1) (hG (cH i2) xu))))
  (k:∀ H1 l' ys,Same H H1->H l'=none->H1 l'=some (.lst ys)->All S K H1 ys bs->∃ Pv:Nat->L2.St->Hp->Prop,Pv 0 σ H1/\(∀ i σ' H',Pv i σ' H'->H' l=some (.lst xs)/\H' l'=some (.lst ys))/\
   (∀ i f v w σ' H',bs[i]?=some f->xs[i]?=some v->ys[i]?=some w->Pv i σ' H'->∀ H2,Same H' H2->(∀ b o,H2 b=some o->(∀ ys,o≠.tup ys)->H' b=some o)->SX X {D with nx:=Pv (i+1),ct:=Pv (i+1),bk:=SX X D rest} body ((σ'.set i1 (some v)).set i2 (some w)) H2)/\∀ σ' H',Pv xs.length σ' H'->SX X D rest σ' H')
  (hm:X.mg "zip"=none) (hge:Gl X "zip":=by rfl) (hs:starEach [a,b] X.env=(false,eval a X.env)::starEach [b] X.env:=by rfl) (hs':starEach [b] X.env=(false,eval b X.env)::starEach [] X.env:=by rfl) (hpl:(backTo cpos (starEach [b] X.env)).any (·.1)=false:=by rfl) (hf:∀ x,foldedSetIterable (.Call (.Name "zip" pe) [a,b] [] cpos) X.env x=pure x:=by intro _;rfl):
  SX X D (.For (.Tuple elts kk tpos) (.Call (.Name "zip" pe) [a,b] [] cpos) body [] pos::rest) σ H:=by
 refine iy (T:=fun J H1=>∃ l' ys,J=adk X.K true true l l'/\Same H H1/\H l'=none/\H1 l'=some (.lst ys)/\All S K H1 ys bs) hp hc (x6 (kl:=true) (kr:=true) hge hm (aq ah (aq ah be hs') hs) hs hpl) hg
  (fun R' k=>h.now fun v H1 s1 e1=>h' H1 s1 _ fun w H2 s2 ⟨l',ys,e2,n',q',z'⟩=>⟨l,l',xs,ys,by rw [show v=.ref l from e1,e2],SqL.of (s2 _ _ (s1 _ _ hq)),SqL.of q',k _ H2 ⟨l',ys,rfl,s1.trans s2,n',q',z'⟩⟩) ?_ hf
 rintro J H1 ⟨l',ys,rfl,s1,n',q',z'⟩
 obtain ⟨Pv,p0,pl,pt,pd⟩:=k H1 l' ys s1 n' q' z'
 refine ⟨xs.length,Pv,p0,fun i σ' H' hi pv=>?_,fun σ' H' pv=>⟨⟨xs,ys,SqL.of (pl _ _ _ pv).1,SqL.of (pl _ _ _ pv).2,.inl (Nat.le_refl _)⟩,pd σ' H' pv⟩⟩
 have hy:i < ys.length:=by rw [z'.length,<-hl];exact hi
 refine ⟨⟨xs,ys,xs[i],ys[i],SqL.of (pl _ _ _ pv).1,SqL.of (pl _ _ _ pv).2,List.getElem?_eq_getElem hi,List.getElem?_eq_getElem hy⟩,?_⟩
 rintro v H2 ⟨T,x,y,rfl,hT,rfl,h1,h2⟩
 have e1:=h1 xs (SqL.of (pl _ _ _ pv).1)
 have e2:=h2 ys (SqL.of (pl _ _ _ pv).2)
 refine ⟨T,_,rfl,SqT.of aj,rfl,_,_,rfl,_,_,rfl,rfl,pt i (bs[i]'(by rw [<-hl];exact hi)) x y σ' H' (List.getElem?_eq_getElem (by rw [<-hl];exact hi)) e1 e2 pv _ (a8 hT) fun b o h1 h2=>?_⟩
 by_cases hb:b=T
 ·subst hb
  rw [aj] at h1
  exact absurd (Option.some.inj h1).symm (h2 _)
 ·rw [am hb] at h1
  exact h1
def cG (H0:Hp){α:Type}(R:Rp α):Rp (List (List α)):=fun K as v H=>∃ D acc,v=.ref D/\H0 D=none/\H D=some (.lst acc)/\All (cM R) K H acc as/\acc.Nodup/\∀ u∈acc,u≠.ref D/\∀ p,u=.ref p->H0 p=none
theorem aaC {wi:TI}{g:TG}{n:Nat}{Y:Nat->VK}{vs:List Nat}{te:TE}[Mono R][Frz R]{gs:Nat->List α}{Q:VK}{H:Hp}(s:Same H0 H)
  (hw:∀ H,Same H0 H->∀ R:It->Hp->Prop,(∀ J H1,Same H H1->Walk J H1 n Y->R J H1)->wi σ H R)(hn:n < sizeLine)
  (hel:∀ i,i < n->∀ x H,Same H0 H->Y i x H->∃ σ2,(∀ Q:L2.St->Hp->Prop,Q σ2 H->g x (wipe σ vs) H Q)/\wipe σ2 vs=wipe σ vs/\∀ H1,Same H H1->∀ Q:VK,(∀ v H',Same H1 H'->cF H R K (gs i) v H'->Q v H')->te σ2 H1 Q)
  (k:∀ v H',Same H H'->cG H0 R K ((List.range n).map gs) v H'->Q v H'):tLc wi g w6 te vs σ H Q:=by
 refine hw H s _ fun J H1 s1 W D hD=>?_
 refine ⟨fun i m H'=>m=n - i/\i<=n/\Same H1 H'/\∃ acc,H' D=some (.lst acc)/\All (cA D R) K H' acc ((List.range i).map gs)/\acc.Nodup/\∀ u∈acc,∀ p,u=.ref p->H0 p=none,⟨n,by simp,Nat.zero_le _,a8 hD,[],aj,.nil,List.nodup_nil,fun u hu=>by cases hu⟩,?_⟩
 rintro i m H2 ⟨rfl,hi,s2,acc,hacc,hall,hnd,hfr⟩
 by_cases hlt:i < n
 ·refine .inr ⟨W.go H2 s2 i hlt,fun H'=>i+1<=n/\Same H1 H'/\∃ acc,H' D=some (.lst acc)/\All (cA D R) K H' acc ((List.range (i+1)).map gs)/\acc.Nodup/\∀ u∈acc,∀ p,u=.ref p->H0 p=none,fun H' h'=>⟨n - (i+1),by omega,rfl,h'⟩,fun x H3 y=>?_⟩
  obtain ⟨s3,hy⟩:=W.yld H2 s2 i hlt x H3 y
  obtain ⟨σ2,hg,hwipe,he⟩:=hel i hlt x H3 (s.trans (s1.trans (s2.trans s3))) hy
  refine hg _ ⟨hwipe,?_⟩
  unfold w6
  refine aeC ?_
  refine he H3 (bi H3) _ fun v H4 s4 hv=>⟨acc,s4 _ _ (s3 _ _ hacc),?_,hlt,bK (s2.trans (s3.trans s4)) hD,acc++[v],aj,?_⟩
  ·have:=hall.length
   rw [List.length_map,List.length_range] at this
   omega
  ·have h4:H4 D=some (.lst acc):=s4 _ _ (s3 _ _ hacc)
   obtain ⟨p,xs,e1,n1,z1,r1⟩:=hv
   have hne:p≠D:=fun q=>by
    rw [q,s3 _ _ hacc] at n1
    cases n1
   have hall4:All (cA D R) K (upd H4 D (.lst (acc++[v]))) acc ((List.range i).map gs):=Paired.mapP hall fun _ _ z=>(z.later (s3.trans s4)).put h4
   refine ⟨?_,?_,?_⟩
   ·rw [List.range_succ,List.map_append]
    exact hall4.append (.cons (cA.put h4 ⟨p,xs,e1,hne,z1,r1⟩) .nil)
   ·refine sS hnd fun hm=>?_
    obtain ⟨j,hj,ej⟩:=List.getElem_of_mem hm
    obtain ⟨d,_,p',xs',e',_,z',_⟩:=hall.getV (i:=j) (x:=v) (by rw [List.getElem?_eq_getElem hj,ej])
    rw [e1] at e'
    cases e'
    rw [s3 _ _ z'] at n1
    cases n1
   ·intro u hu p' hp'
    rcases List.mem_append.mp hu with q | q
    ·exact hfr u q p' hp'
    ·have q:=List.mem_singleton.mp q
     rw [q,e1] at hp'
     cases hp'
     exact (s.trans (s1.trans (s2.trans s3))).free n1
 ·have e:i=n:=by omega
  subst e
  refine .inl ⟨W.stop H2 s2,k _ H2 (s1.trans s2) ⟨D,acc,rfl,(s.trans s1).free hD,hacc,Paired.mapP hall fun _ _ ⟨p,xs,e,_,z,r⟩=>⟨p,xs,e,z,r⟩,hnd,fun u hu=>⟨fun q=>?_,hfr u hu⟩⟩⟩
  obtain ⟨j,hj,ej⟩:=List.getElem_of_mem hu
  obtain ⟨d,_,p',xs',e',ne',z',_⟩:=hall.getV (i:=j) (x:=u) (by rw [List.getElem?_eq_getElem hj,ej])
  rw [q] at e'
  cases e'
  exact ne' rfl
theorem zF [Mono R][Frz R][Mono S]{bs:List β}{i:Nat}(v:Nat)(gs:β->List α)(hc:X.calm=true)(hN:X.N.Nodup)(hi:PX X σ H iter (cL S K bs))(hn:bs.length < sizeLine)
  (hel:∀ (i:Nat) (d:β),bs[i]?=some d->∀ u H',Same H H'->S K d u H'->PB X scope ((wipe σ [v]).set v (some u)) H' elt (cF H' R K (gs d)))
  (k:∀ u H',Same H H'->cG H R K (bs.map gs) u H'->SX X D rest (σ.set i (some u)) H')
  (hzy:X.N[i]?=some z:=by rfl)(hzl:X.env.scope.names.lookup z=some .local:=by rfl)(hkd:X.env.scope.kind=.function:=by rfl)(hln:(py.line == pos.line)=true:=by rfl)(han:(scope.names.any fun (n,k)=>n == z&&(k == .local || k == .cell))=false:=by decide +kernel)
  (hv:X.N[v]?=some x:=by rfl)(ok:wB X.N X.env.scope scope [(x,v)]=true:=by kernel_rfl)(hlo:scope.names.lookup x=some .local:=by rfl)(hs:∀ x,foldedSetIterable iter X.env x=pure x:=by intro _;rfl)(hK:X.K=K:=by rfl):
  SX X D (.Assign [.Name z py] (.ListComp elt [⟨.Name x tp,iter,[],0⟩] scope pos) spos::rest) σ H:=by
 rw [<-jD bs (fun i=>(bs[i]?.map gs).getD []) gs fun i d h=>by rw [h];rfl] at k
 obtain ⟨wi,h1,h2⟩:=(xT (tg:=.Name x tp) (K:=K) hi hK)
 refine bh (vS (own:=[(x,v)]) (g:=cH v) (te:=fun σ H Q=>∀ (s:Shared) (H':Hp) (C:Addr) (cl:List (Str×Addr)) (fp:List Addr),EX (X.blk s H' scope (compEnvC scope cl C X.env) fp) elt σ H Q) hc hN hzy hzl (xU hkd hzl hln han) h1 (ic ok) (fun _ _ _ _ _=>bg hN hv (.inl (cg hlo)) (.inr (cg hlo))) (fun _ _ _ _ _=>oP) (fun s H C cl fp=>fun pins s' σ H' Q I h=>h s H C cl fp pins s' I) hs)
  (aaC (bi H) h2 hn (fun i hi x H' s' y=>?_) k)
 obtain ⟨d,hd,r⟩:=y
 refine ⟨(wipe σ [v]).set v (some x),fun Q q=>q,?_,fun H1 s1 Q kq s0 H0' C cl fp=>?_⟩
 ·show ((((wipe σ []).set v none).set v (some x)).set v none)=((wipe σ []).set v none)
  rw [List.set_set,List.set_set]
 ·have q:=hel i d hd x H' s' r s0 H0' C cl fp H1 s1 Q
  simp only [hd,Option.map_some,Option.getD_some] at kq
  exact q kq
end
structure Stay (C:Addr){α:Type}(R:Rp α):Prop where
 st:∀ {K:PySem.W.Frag} {d:α} {v:V} {H:Hp} {x dx:Addr} {fl:List (Str×V)} {o:HO},H x=some (.ins C dx fl)->R K d v H->R K d v (upd H x o)
section
variable {C C':Addr}{α β:Type}{R:Rp α}{S:Rp β}
theorem abb:Stay C cI:=⟨fun _ h=>h⟩
theorem uI {fl:α->List (Str×V)}(n:C'≠C):Stay C (cO C' fl):=⟨fun hx ⟨p,dx,e,h⟩=>⟨p,dx,e,by rw [am (b9 h hx (by intro z;injection z with z _ _;exact n z))];exact h⟩⟩
theorem qP (h:Stay C R){K:PySem.W.Frag}{H:Hp}{x dx:Addr}{fl:List (Str×V)}{o:HO}{xs:List V}{as:List α}(hx:H x=some (.ins C dx fl))(z:All R K H xs as):All R K (upd H x o) xs as:=Paired.mapP z fun _ _ q=>h.st hx q
theorem abz {K:PySem.W.Frag}{H:Hp}{x dx l:Addr}{fl:List (Str×V)}{o:HO}{xs:List V}(hx:H x=some (.ins C dx fl))(q:SqL K H l xs):SqL K (upd H x o) l xs:=by
 rcases q with (q | ⟨ob,q⟩) | q
 ·exact .inl (.inl (by rw [am (b9 q hx (by intro z;cases z))];exact q))
 ·exact .inl (.inr ⟨ob,by rw [am (b9 q hx (by intro z;cases z))];exact q⟩)
 ·exact .inr q
theorem aaA {K:PySem.W.Frag}{H:Hp}{x dx l:Addr}{fl:List (Str×V)}{o:HO}{xs:List V}(hx:H x=some (.ins C dx fl))(q:SqT K H l xs):SqT K (upd H x o) l xs:=by
 rcases q with (q | ⟨ob,q⟩) | q
 ·exact .inl (.inl (by rw [am (b9 q hx (by intro z;cases z))];exact q))
 ·exact .inl (.inr ⟨ob,by rw [am (b9 q hx (by intro z;cases z))];exact q⟩)
 ·exact .inr q
theorem fV (h:Stay C R):Stay C (cL R):=⟨fun hx ⟨a,xs,e,q,z⟩=>⟨a,xs,e,abz hx q,qP h hx z⟩⟩
theorem abX (h:Stay C R):Stay C (cT R):=⟨fun hx ⟨a,xs,e,q,z⟩=>⟨a,xs,e,aaA hx q,qP h hx z⟩⟩
theorem aav (h:Stay C R):Stay C (cM R):=⟨fun hx ⟨a,xs,e,q,z⟩=>⟨a,xs,e,by rw [am (b9 q hx (by intro z;cases z))];exact q,qP h hx z⟩⟩
end
def top (i:Nat):Stmt:=PySem.Challenge.pw_boxpages_s01_answers.main.body.getD i (.Pass ⟨0,0,0,0⟩)
abbrev fO:Stmt:=top 2
theorem kF:af ["numbers","ranges","number","limits"] ["numbers","ranges"] (ae fO):=⟨rfl,rfl,rfl,by decide +kernel,rfl,by decide +kernel,by decide +kernel⟩
abbrev d4:Stmt:=top 35
theorem oW:af ["block"] ["block"] (ae d4):=⟨rfl,rfl,rfl,by decide +kernel,rfl,by decide +kernel,by decide +kernel⟩
abbrev bR:Stmt:=top 36
theorem aP:af ["block","first","last","start","end","place"] ["block","first","last"] (ae bR):=⟨rfl,rfl,rfl,by decide +kernel,rfl,by decide +kernel,by decide +kernel⟩
abbrev gj:Stmt:=top 37
theorem qE:af ["block"] ["block"] (ae gj):=⟨rfl,rfl,rfl,by decide +kernel,rfl,by decide +kernel,by decide +kernel⟩
abbrev gn:Stmt:=top 38
theorem iE:af ["block","item"] ["block"] (ae gn):=⟨rfl,rfl,rfl,by decide +kernel,rfl,by decide +kernel,by decide +kernel⟩
abbrev fK:Stmt:=top 39
theorem sW:af ["block"] ["block"] (ae fK):=⟨rfl,rfl,rfl,by decide +kernel,rfl,by decide +kernel,by decide +kernel⟩
abbrev fH:Stmt:=top 40
theorem kL:af ["blocks","block"] ["blocks"] (ae fH):=⟨rfl,rfl,rfl,by decide +kernel,rfl,by decide +kernel,by decide +kernel⟩
abbrev iF:Stmt:=top 41
theorem pV:af ["numbers","behind"] ["numbers"] (ae iF):=⟨rfl,rfl,rfl,by decide +kernel,rfl,by decide +kernel,by decide +kernel⟩
abbrev dI:Stmt:=top 42
theorem oo:af ["block"] ["block"] (ae dI):=⟨rfl,rfl,rfl,by decide +kernel,rfl,by decide +kernel,by decide +kernel⟩
abbrev dY:Stmt:=top 43
theorem nU:af ["item"] ["item"] (ae dY):=⟨rfl,rfl,rfl,by decide +kernel,rfl,by decide +kernel,by decide +kernel⟩
abbrev bW:Stmt:=top 44
theorem fv:af ["block","item"] ["block"] (ae bW):=⟨rfl,rfl,rfl,by decide +kernel,rfl,by decide +kernel,by decide +kernel⟩
abbrev di:Stmt:=top 45
theorem ma:af ["block"] ["block"] (ae di):=⟨rfl,rfl,rfl,by decide +kernel,rfl,by decide +kernel,by decide +kernel⟩
abbrev dQ:Stmt:=top 46
theorem nR:af ["numbers","others"] ["numbers","others"] (ae dQ):=⟨rfl,rfl,rfl,by decide +kernel,rfl,by decide +kernel,by decide +kernel⟩
abbrev ec:Stmt:=aE (top 54) 0
theorem qu:af ["self","width","space","shrink","cost"] ["self","width","space","shrink","cost"] (ae ec):=⟨rfl,rfl,rfl,by decide +kernel,rfl,by decide +kernel,by decide +kernel⟩
abbrev gJ:Stmt:=aE (top 55) 0
theorem vY:af ["self","first","last","slack","overfull","cost"] ["self","first","last","slack","overfull","cost"] (ae gJ):=⟨rfl,rfl,rfl,by decide +kernel,rfl,by decide +kernel,by decide +kernel⟩
abbrev fk:Stmt:=aE (top 56) 0
theorem re:af ["self","row"] ["self","row"] (ae fk):=⟨rfl,rfl,rfl,by decide +kernel,rfl,by decide +kernel,by decide +kernel⟩
abbrev dS:Stmt:=aE (top 56) 1
theorem iS:af ["self","row","left","shrunk","begins","number","item","right","ends"] ["self","row"] (ae dS):=⟨rfl,rfl,rfl,by decide +kernel,rfl,by decide +kernel,by decide +kernel⟩
abbrev cn:Stmt:=aE (top 56) 2
theorem jI:af ["self"] ["self"] (ae cn):=⟨rfl,rfl,rfl,by decide +kernel,rfl,by decide +kernel,by decide +kernel⟩
abbrev c9:Stmt:=aE (top 56) 3
theorem kQ:af ["self","start","end","room"] ["self","start","end","room"] (ae c9):=⟨rfl,rfl,rfl,by decide +kernel,rfl,by decide +kernel,by decide +kernel⟩
abbrev bS:Stmt:=aE (top 56) 4
theorem jf:af ["self","start","end","room"] ["self","start","end","room"] (ae bS):=⟨rfl,rfl,rfl,by decide +kernel,rfl,by decide +kernel,by decide +kernel⟩
abbrev dm:Stmt:=aE (top 56) 5
theorem mM:af ["self","end","slack"] ["self","end","slack"] (ae dm):=⟨rfl,rfl,rfl,by decide +kernel,rfl,by decide +kernel,by decide +kernel⟩
abbrev eW:Stmt:=aE (top 56) 6
theorem gT:af ["self","start","end","room","slack","overfull"] ["self","start","end","room"] (ae eW):=⟨rfl,rfl,rfl,by decide +kernel,rfl,by decide +kernel,by decide +kernel⟩
abbrev iL:Stmt:=top 57
theorem qI:af ["pieces","start","end","room","rest","slack"] ["pieces","start","end","room","rest"] (ae iL):=⟨rfl,rfl,rfl,by decide +kernel,rfl,by decide +kernel,by decide +kernel⟩
abbrev ir:Stmt:=top 58
theorem qd:af ["pieces","start","farthest","room","ways","least","best","end","rest","slack"] ["pieces","start","farthest","room","ways"] (ae ir):=⟨rfl,rfl,rfl,by decide +kernel,rfl,by decide +kernel,by decide +kernel⟩
abbrev gL:Stmt:=top 59
theorem nu:af ["pieces","first_room","room","last","ways","farthest","start"] ["pieces","first_room","room"] (ae gL):=⟨rfl,rfl,rfl,by decide +kernel,rfl,by decide +kernel,by decide +kernel⟩
abbrev dU:Stmt:=top 60
theorem iR:af ["row","first_room","room","pieces","ways","end","spans","start"] ["row","first_room","room"] (ae dU):=⟨rfl,rfl,rfl,by decide +kernel,rfl,by decide +kernel,by decide +kernel⟩
abbrev lH:Stmt:=top 70
theorem abC:af ["line"] ["line"] (ae lH):=⟨rfl,rfl,rfl,by decide +kernel,rfl,by decide +kernel,by decide +kernel⟩
abbrev fg:Stmt:=top 71
theorem jW:af ["line","below","blocks","settings","space","opened","cost"] ["line","below","blocks","settings"] (ae fg):=⟨rfl,rfl,rfl,by decide +kernel,rfl,by decide +kernel,by decide +kernel⟩
abbrev fP:Stmt:=top 72
theorem lA:af ["lines","blocks","settings","row","line","below"] ["lines","blocks","settings"] (ae fP):=⟨rfl,rfl,rfl,by decide +kernel,rfl,by decide +kernel,by decide +kernel⟩
abbrev dq:Stmt:=aE (top 74) 0
theorem ig:af ["self","owner","span","sizes","held","size"] ["self","owner","span","sizes"] (ae dq):=⟨rfl,rfl,rfl,by decide +kernel,rfl,by decide +kernel,by decide +kernel⟩
abbrev dX:Stmt:=top 75
theorem iP:af ["block","item"] ["block"] (ae dX):=⟨rfl,rfl,rfl,by decide +kernel,rfl,by decide +kernel,by decide +kernel⟩
abbrev fi:Stmt:=top 76
theorem jR:af ["block","settings","measure"] ["block","settings"] (ae fi):=⟨rfl,rfl,rfl,by decide +kernel,rfl,by decide +kernel,by decide +kernel⟩
abbrev eX:Stmt:=top 77
theorem jU:af ["blocks","settings","lines","owner","block","sizes","span"] ["blocks","settings"] (ae eX):=⟨rfl,rfl,rfl,by decide +kernel,rfl,by decide +kernel,by decide +kernel⟩
abbrev gK:Stmt:=aE (top 79) 0
theorem vU:af ["self","page","x","y"] ["self","page","x","y"] (ae gK):=⟨rfl,rfl,rfl,by decide +kernel,rfl,by decide +kernel,by decide +kernel⟩
abbrev gH:Stmt:=aE (top 79) 1
theorem vE:af ["self"] ["self"] (ae gH):=⟨rfl,rfl,rfl,by decide +kernel,rfl,by decide +kernel,by decide +kernel⟩
abbrev gG:Stmt:=top 80
theorem np:af ["lines","row","span","ys","upper","number"] ["lines","row","span"] (ae gG):=⟨rfl,rfl,rfl,by decide +kernel,rfl,by decide +kernel,by decide +kernel⟩
abbrev gM:Stmt:=top 81
theorem nr:af ["block","settings","spare"] ["block","settings"] (ae gM):=⟨rfl,rfl,rfl,by decide +kernel,rfl,by decide +kernel,by decide +kernel⟩
abbrev jF:Stmt:=top 82
theorem sy:af ["line","block","settings","xs","x","item"] ["line","block","settings"] (ae jF):=⟨rfl,rfl,rfl,by decide +kernel,rfl,by decide +kernel,by decide +kernel⟩
abbrev fM:Stmt:=top 83
theorem kY:af ["lines","row","pages","blocks","settings","spots","page","span","on_page","line","y","xs","block","x"] ["lines","row","pages","blocks","settings"] (ae fM):=⟨rfl,rfl,rfl,by decide +kernel,rfl,by decide +kernel,by decide +kernel⟩
abbrev lc:Stmt:=top 84
theorem abE:af ["spot","size","x","y"] ["spot","size","x","y"] (ae lc):=⟨rfl,rfl,rfl,by decide +kernel,rfl,by decide +kernel,by decide +kernel⟩
abbrev eY:Stmt:=aE (top 86) 0
theorem jQ:af ["self","settings","blocks","row"] ["self","settings","blocks"] (ae eY):=⟨rfl,rfl,rfl,by decide +kernel,rfl,by decide +kernel,by decide +kernel⟩
abbrev cq:Stmt:=aE (top 86) 1
theorem fF:af ["self","told","line"] ["self"] (ae cq):=⟨rfl,rfl,rfl,by decide +kernel,rfl,by decide +kernel,by decide +kernel⟩
abbrev ci:Stmt:=aE (top 86) 2
theorem fG:af ["self","told","page"] ["self"] (ae ci):=⟨rfl,rfl,rfl,by decide +kernel,rfl,by decide +kernel,by decide +kernel⟩
abbrev cj:Stmt:=aE (top 86) 3
theorem fE:af ["self","line","page"] ["self"] (ae cj):=⟨rfl,rfl,rfl,by decide +kernel,rfl,by decide +kernel,by decide +kernel⟩
abbrev c6:Stmt:=aE (top 86) 4
theorem lr:af ["self","i","k"] ["self","i","k"] (ae c6):=⟨rfl,rfl,rfl,by decide +kernel,rfl,by decide +kernel,by decide +kernel⟩
abbrev cf:Stmt:=aE (top 86) 5
theorem jJ:af ["self","i","k"] ["self","i","k"] (ae cf):=⟨rfl,rfl,rfl,by decide +kernel,rfl,by decide +kernel,by decide +kernel⟩
abbrev bX:Stmt:=aE (top 86) 6
theorem fq:af ["self","i","told","spot"] ["self","i"] (ae bX):=⟨rfl,rfl,rfl,by decide +kernel,rfl,by decide +kernel,by decide +kernel⟩
abbrev du:Stmt:=aE (top 86) 7
theorem hJ:af ["self","page","x","y","told","i","block","k","size","spot"] ["self","page","x","y"] (ae du):=⟨rfl,rfl,rfl,by decide +kernel,rfl,by decide +kernel,by decide +kernel⟩
abbrev jB:Stmt:=top 91
theorem zT:af ["blocks","i"] ["blocks","i"] (ae jB):=⟨rfl,rfl,rfl,by decide +kernel,rfl,by decide +kernel,by decide +kernel⟩
abbrev fQ:Stmt:=top 92
theorem uM:af ["blocks","i","block"] ["blocks","i","block"] (ae fQ):=⟨rfl,rfl,rfl,by decide +kernel,rfl,by decide +kernel,by decide +kernel⟩
abbrev cJ:Stmt:=aE (top 93) 0
theorem nS:af ["self"] ["self"] (ae cJ):=⟨rfl,rfl,rfl,by decide +kernel,rfl,by decide +kernel,by decide +kernel⟩
abbrev dM:Stmt:=aE (top 93) 1
theorem n4:af ["self","settings","blocks"] ["self","settings","blocks"] (ae dM):=⟨rfl,rfl,rfl,by decide +kernel,rfl,by decide +kernel,by decide +kernel⟩
abbrev c7:Stmt:=aE (top 93) 2
theorem lv:af ["self","numbers"] ["self","numbers"] (ae c7):=⟨rfl,rfl,rfl,by decide +kernel,rfl,by decide +kernel,by decide +kernel⟩
abbrev eA:Stmt:=aE (top 93) 3
theorem qA:af ["self","numbers"] ["self","numbers"] (ae eA):=⟨rfl,rfl,rfl,by decide +kernel,rfl,by decide +kernel,by decide +kernel⟩
abbrev et:Stmt:=aE (top 93) 4
theorem qw:af ["self","i","numbers"] ["self","i","numbers"] (ae et):=⟨rfl,rfl,rfl,by decide +kernel,rfl,by decide +kernel,by decide +kernel⟩
abbrev cZ:Stmt:=aE (top 93) 5
theorem lE:af ["self","i","numbers"] ["self","i","numbers"] (ae cZ):=⟨rfl,rfl,rfl,by decide +kernel,rfl,by decide +kernel,by decide +kernel⟩
abbrev dO:Stmt:=aE (top 93) 6
theorem nQ:af ["self","i"] ["self","i"] (ae dO):=⟨rfl,rfl,rfl,by decide +kernel,rfl,by decide +kernel,by decide +kernel⟩
abbrev dW:Stmt:=aE (top 93) 7
theorem ol:af ["self","i","j"] ["self","i","j"] (ae dW):=⟨rfl,rfl,rfl,by decide +kernel,rfl,by decide +kernel,by decide +kernel⟩
abbrev dl:Stmt:=aE (top 93) 8
theorem mW:af ["self","i"] ["self","i"] (ae dl):=⟨rfl,rfl,rfl,by decide +kernel,rfl,by decide +kernel,by decide +kernel⟩
abbrev dA:Stmt:=aE (top 93) 9
theorem mF:af ["self"] ["self"] (ae dA):=⟨rfl,rfl,rfl,by decide +kernel,rfl,by decide +kernel,by decide +kernel⟩
abbrev dh:Stmt:=aE (top 93) 10
theorem mr:af ["self"] ["self"] (ae dh):=⟨rfl,rfl,rfl,by decide +kernel,rfl,by decide +kernel,by decide +kernel⟩
abbrev dk:Stmt:=aE (top 93) 11
theorem l8:af ["self"] ["self"] (ae dk):=⟨rfl,rfl,rfl,by decide +kernel,rfl,by decide +kernel,by decide +kernel⟩
abbrev dg:Stmt:=aE (top 93) 12
theorem mq:af ["self","i","k"] ["self","i","k"] (ae dg):=⟨rfl,rfl,rfl,by decide +kernel,rfl,by decide +kernel,by decide +kernel⟩
abbrev cS:Stmt:=aE (top 93) 13
theorem kT:af ["self","i"] ["self","i"] (ae cS):=⟨rfl,rfl,rfl,by decide +kernel,rfl,by decide +kernel,by decide +kernel⟩
abbrev fj:Stmt:=aE (top 93) 14
theorem rn:af ["self","page","x","y"] ["self","page","x","y"] (ae fj):=⟨rfl,rfl,rfl,by decide +kernel,rfl,by decide +kernel,by decide +kernel⟩
abbrev dz:Stmt:=aE (top 93) 15
theorem mC:af ["self"] ["self"] (ae dz):=⟨rfl,rfl,rfl,by decide +kernel,rfl,by decide +kernel,by decide +kernel⟩
abbrev bU:Stmt:=aE (top 93) 16
theorem ja:af ["self","i"] ["self","i"] (ae bU):=⟨rfl,rfl,rfl,by decide +kernel,rfl,by decide +kernel,by decide +kernel⟩
abbrev ck:Stmt:=aE (top 93) 17
theorem jN:af ["self"] ["self"] (ae ck):=⟨rfl,rfl,rfl,by decide +kernel,rfl,by decide +kernel,by decide +kernel⟩
abbrev bF:Stmt:=aE (top 93) 18
theorem eH:af ["self","others","i","numbers","refusal"] ["self","others","i","numbers"] (ae bF):=⟨rfl,rfl,rfl,by decide +kernel,rfl,by decide +kernel,by decide +kernel⟩
abbrev ff:Stmt:=aE (top 96) 0
theorem rM:af ["self","calls"] ["self","calls"] (ae ff):=⟨rfl,rfl,rfl,by decide +kernel,rfl,by decide +kernel,by decide +kernel⟩
abbrev dJ:Stmt:=aE (top 96) 1
theorem nD:af ["self"] ["self"] (ae dJ):=⟨rfl,rfl,rfl,by decide +kernel,rfl,by decide +kernel,by decide +kernel⟩
abbrev dN:Stmt:=aE (top 96) 2
theorem nI:af ["self"] ["self"] (ae dN):=⟨rfl,rfl,rfl,by decide +kernel,rfl,by decide +kernel,by decide +kernel⟩
abbrev cv:Stmt:=aE (top 96) 3
theorem mn:af ["self","size"] ["self","size"] (ae cv):=⟨rfl,rfl,rfl,by decide +kernel,rfl,by decide +kernel,by decide +kernel⟩
abbrev fS:Stmt:=aE (top 96) 4
theorem tD:af ["self"] ["self"] (ae fS):=⟨rfl,rfl,rfl,by decide +kernel,rfl,by decide +kernel,by decide +kernel⟩
abbrev c8:Stmt:=top 97
theorem kJ:af ["document","reader"] ["document","reader"] (ae c8):=⟨rfl,rfl,rfl,by decide +kernel,rfl,by decide +kernel,by decide +kernel⟩
abbrev fI:Stmt:=top 98
theorem uA:af ["document","reader"] ["document","reader"] (ae fI):=⟨rfl,rfl,rfl,by decide +kernel,rfl,by decide +kernel,by decide +kernel⟩
abbrev fR:Stmt:=top 99
theorem uB:af ["document","reader","i"] ["document","reader"] (ae fR):=⟨rfl,rfl,rfl,by decide +kernel,rfl,by decide +kernel,by decide +kernel⟩
abbrev dR:Stmt:=top 100
theorem nz:af ["document","reader","i"] ["document","reader"] (ae dR):=⟨rfl,rfl,rfl,by decide +kernel,rfl,by decide +kernel,by decide +kernel⟩
abbrev fc:Stmt:=top 101
theorem rq:af ["document","reader"] ["document","reader"] (ae fc):=⟨rfl,rfl,rfl,by decide +kernel,rfl,by decide +kernel,by decide +kernel⟩
abbrev fb:Stmt:=top 102
theorem rW:af ["document","reader","i"] ["document","reader"] (ae fb):=⟨rfl,rfl,rfl,by decide +kernel,rfl,by decide +kernel,by decide +kernel⟩
abbrev ey:Stmt:=top 103
theorem pq:af ["document","reader"] ["document","reader"] (ae ey):=⟨rfl,rfl,rfl,by decide +kernel,rfl,by decide +kernel,by decide +kernel⟩
abbrev d9:Stmt:=top 104
theorem qB:af ["document","reader"] ["document","reader"] (ae d9):=⟨rfl,rfl,rfl,by decide +kernel,rfl,by decide +kernel,by decide +kernel⟩
abbrev eu:Stmt:=top 105
theorem pU:af ["document","reader"] ["document","reader"] (ae eu):=⟨rfl,rfl,rfl,by decide +kernel,rfl,by decide +kernel,by decide +kernel⟩
abbrev el:Stmt:=top 106
theorem p7:af ["document","reader"] ["document","reader"] (ae el):=⟨rfl,rfl,rfl,by decide +kernel,rfl,by decide +kernel,by decide +kernel⟩
abbrev d5:Stmt:=top 107
theorem pc:af ["document","reader","i"] ["document","reader"] (ae d5):=⟨rfl,rfl,rfl,by decide +kernel,rfl,by decide +kernel,by decide +kernel⟩
abbrev dP:Stmt:=top 108
theorem nN:af ["document","reader"] ["document","reader"] (ae dP):=⟨rfl,rfl,rfl,by decide +kernel,rfl,by decide +kernel,by decide +kernel⟩
abbrev gC:Stmt:=top 109
theorem uT:af ["document","reader","page","x"] ["document","reader"] (ae gC):=⟨rfl,rfl,rfl,by decide +kernel,rfl,by decide +kernel,by decide +kernel⟩
abbrev d7:Stmt:=top 110
theorem qS:af ["document","reader"] ["document","reader"] (ae d7):=⟨rfl,rfl,rfl,by decide +kernel,rfl,by decide +kernel,by decide +kernel⟩
abbrev fU:Stmt:=top 112
theorem zH:af ["calls","reader","document","told","answer_call","answer"] ["calls"] (ae fU):=⟨rfl,rfl,rfl,by decide +kernel,rfl,by decide +kernel,by decide +kernel⟩
structure Blt (mg:Str->Option Value):Prop where
 len:mg "len"=none
 sum:mg "sum"=none
 all:mg "all"=none
 max:mg "max"=none
 min:mg "min"=none
 range:mg "range"=none
 enum:mg "enumerate"=none
 zip:mg "zip"=none
 tuple:mg "tuple"=none
 list:mg "list"=none
def bP (mg:Str->Option Value)(x:Str)(n:Int):Prop:=∃ t,mg x=some (.int n t)
structure Nums (mg:Str->Option Value):Prop where
 done:bP mg "DONE" 0
 badForm:bP mg "BAD_FORM" (-1)
 outOfRange:bP mg "OUT_OF_RANGE" (-2)
 tooMany:bP mg "TOO_MANY" (-3)
 mostBlocks:bP mg "MOST_BLOCKS" 60
 mostItems:bP mg "MOST_ITEMS" 600
 headSize:bP mg "HEAD_SIZE" 4
 formPlace:bP mg "FORM_PLACE" 4
 paragraph:bP mg "PARAGRAPH" 0
 display:bP mg "DISPLAY" 1
 beforePlace:bP mg "BEFORE_PLACE" 0
 beforeShrink:bP mg "BEFORE_SHRINK_PLACE" 2
 blockCost:bP mg "BLOCK_COST_PLACE" 3
 firstIndent:bP mg "FIRST_INDENT_PLACE" 5
 itemsPlace:bP mg "ITEMS_PLACE" 6
 itemSize:bP mg "ITEM_SIZE" 7
 widthPlace:bP mg "WIDTH_PLACE" 0
 heightPlace:bP mg "HEIGHT_PLACE" 1
 depthPlace:bP mg "DEPTH_PLACE" 2
 spacePlace:bP mg "SPACE_PLACE" 3
 spaceShrink:bP mg "SPACE_SHRINK_PLACE" 5
 itemCost:bP mg "ITEM_COST_PLACE" 6
 displayPlace:bP mg "DISPLAY_PLACE" 5
 displaySize:bP mg "DISPLAY_SIZE" 4
 wayPlace:bP mg "WAY_PLACE" 5
 displayWidth:bP mg "DISPLAY_WIDTH_PLACE" 6
 left:bP mg "LEFT" 0
 centred:bP mg "CENTRED" 1
 never:bP mg "NEVER" (-1)
 overfullPlace:bP mg "OVERFULL_PLACE" 0
 costPlace:bP mg "COST_PLACE" 1
 countPlace:bP mg "COUNT_PLACE" 2
 endPlace:bP mg "END_PLACE" 3
 measure:bP mg "MEASURE" 0
 indent:bP mg "INDENT" 1
 lead:bP mg "LEAD" 2
 gap:bP mg "GAP" 3
 page:bP mg "PAGE" 4
 orphan:bP mg "ORPHAN" 5
 badSetting:bP mg "BAD_SETTING" (-4)
 noBlock:bP mg "NO_BLOCK" (-5)
 noItem:bP mg "NO_ITEM" (-6)
 settingCount:bP mg "SETTING_COUNT" 6
def nY (K:PySem.W.Frag)(mg:Str->Option Value)(x:Str)(rs:List (Int×Int)):Prop:=∃ a,mg x=some (.ref a)/\∀ H,cT (c2 cI cI) K rs (.ref a) H
structure Tups (K:PySem.W.Frag)(mg:Str->Option Value):Prop where
 head:nY K mg "HEAD_RANGES" Bp.eT
 first:nY K mg "FIRST_INDENT_RANGES" Bp.bq
 item:nY K mg "ITEM_RANGES" Bp.eK
 display:nY K mg "DISPLAY_RANGES" Bp.cP
 setting:nY K mg "SETTING_RANGES" Bp.fh
 nothing:∃ a,mg "NOTHING_LEFT"=some (.ref a)/\∀ H,cT cI K [0,0,0,0] (.ref a) H
 atFirst:∃ a,mg "SETTINGS_AT_FIRST"=some (.ref a)/\∀ H,cT cI K [0,0,0,0,0,0] (.ref a) H
section
variable {X:Cx}{σ:L2.St}{H0:Hp}{pos:Pos}{K:PySem.W.Frag}{x:Str}{n:Int}
theorem aD (h:bP X.mg x n)(hg:Gl X x:=by rfl)(hd:(x == ("__debug__":Str))=false:=by decide):PX X σ H0 (.Name x pos) (cI K n):=by
 obtain ⟨t,h⟩:=h
 exact abR h hg hd
theorem aec {rs:List (Int×Int)}(h:nY X.K X.mg x rs)(hg:Gl X x:=by rfl)(hd:(x == ("__debug__":Str))=false:=by decide):PX X σ H0 (.Name x pos) (cT (c2 cI cI) X.K rs):=by
 obtain ⟨a,h,r⟩:=h
 exact k3 (v:=.ref a) h rfl r hg hd
theorem vf {rs:List (Int×Int)}(h:nY K X.mg x rs)(hg:Gl X x:=by rfl)(hd:(x == ("__debug__":Str))=false:=by decide)(hK:X.K=K:=by rfl):PX X σ H0 (.Name x pos) (cT (c2 cI cI) K rs):=by
 subst hK
 exact aec h hg hd
end
section
variable {P:Program}{w:World}{K:PySem.W.Frag}{mg:Str->Option Value}{base:Heap}
theorem aao:bootBuiltins "all"=some (.builtin "all"):=by decide +kernel
theorem uG:bootBuiltins "sum"=some (.builtin "sum"):=by decide +kernel
theorem lP:bootBuiltins "max"=some (.builtin "max"):=by decide +kernel
theorem adP:bootBuiltins "min"=some (.builtin "min"):=by decide +kernel
theorem wb:bootBuiltins "tuple"=some (.type "tuple"):=by decide +kernel
theorem acL:bootBuiltins "list"=some (.type "list"):=by decide +kernel
theorem ad4 (as:List Int)(bs:List (Int×Int)):((as.zip bs).map fun z=>(decide (z.2.1<=z.1)&&decide (z.1<=z.2.2))).all id=Bp.aK as bs:=by
 unfold Bp.aK
 rw [List.all_map]
 rfl
theorem qX (F:aW K mg "all_within" fO ["numbers","ranges"])(B:Blt mg)(kl:Bool):Cal P w K mg base "all_within" 1 (spF K (aC (cK kl cI) (aC (cT (c2 cI cI)) aN)) (fun d=>d.2.1.length < 1000) cB (fun d=>Bp.aK d.1 d.2.1)):=by
 refine F.cal kF (fun vs H Q E h=>?_) (fun f cdv A outer s H vs Q E hr h=>?_)
 ·obtain ⟨d,⟨v,_,rfl,_,w,_,rfl,_,rfl⟩,_⟩:=h
  rfl
 ·obtain ⟨⟨ns,rs,u⟩,⟨v,_,rfl,h1,w,_,rfl,h2,rfl⟩,hp,k⟩:=h
  have hp:rs.length < 1000:=hp
  refine ai (P:=cB K (Bp.aK ns rs)) ?_ (fun v H' s h=>k v H' s h)
  rw [<-ad4]
  refine aaG (K:=K) rfl (PX.toL (aea (K:=K) (S:=cB) (kl:=kl) (kr:=false) false 2 3 (fun n r=>decide (r.1<=n)&&decide (n<=r.2)) rfl kF.nd (ab 0 rfl h1) (ab 1 rfl h2) ?_ ?_ B.zip (by decide))) B.all aao
  ·exact Nat.lt_of_le_of_lt (Nat.min_le_right ns.length rs.length) (Nat.lt_trans hp (by decide))
  ·intro i d f hd hf u t H' s' r1 r2 s0 H0' C cl fp
   exact lw kO kO (ad7 (K:=K) (R:=cI) (S:=cI) (ab 3 rfl r2)) (ab 2 rfl r1) (aen (K:=K) (R:=cI) (S:=cI) (ab 3 rfl r2))
theorem al {α:Type}{l:List α}{i:Int}{j:Nat}{d:α}(e:i=(j:Int))(h:l[j]?=some d):atI l i=some d:=by
 rw [e]
 unfold atI
 have hj:=(List.getElem?_eq_some_iff.mp h).1
 have:ixN l.length (j:Int)=some j:=by
  unfold ixN
  simp
  omega
 rw [this]
 exact h
def cC (l:List Int):Bool:=decide (l.getD 4 0=0)
theorem n8 (F:aW K mg "is_paragraph" d4 ["block"])(N:Nums mg):Cal P w K mg base "is_paragraph" 1 (spF K (aC (cQ cI) aN) (fun d=>4 < d.1.length) cB (fun d=>cC d.1)):=by
 refine F.cal oW (fun vs H Q E h=>?_) (fun f cdv A outer s H vs Q E hr h=>?_)
 ·obtain ⟨d,⟨v,_,rfl,_,rfl⟩,_⟩:=h
  rfl
 ·obtain ⟨⟨l,u⟩,⟨v,_,rfl,h1,rfl⟩,hp,k⟩:=h
  have hp:4 < l.length:=hp
  refine ai (P:=cB K (cC l)) ?_ (fun v H' s h=>k v H' s h)
  have e:l[4]?=some (l.getD 4 0):=by rw [List.getD_eq_getElem?_getD,List.getElem?_eq_getElem hp];rfl
  exact pH (aI (K:=K) (R:=cI) (ab 0 rfl h1) (aD N.formPlace) (al (j:=4) rfl e)) (aD N.paragraph)
end
section
variable {P:Program}{w:World}{K:PySem.W.Frag}{mg:Str->Option Value}{base:Heap}
theorem PX.cast {X:Cx}{σ:L2.St}{H0:Hp}{e:Expr}{α:Type}{R:Rp α}{d d':α}(h:PX X σ H0 e (R K d))(z:d=d'):PX X σ H0 e (R K d'):=z ▸ h
theorem gd {l:List Int}{i:Nat}(h:i < l.length):l[i]?=some (l.getD i 0):=by rw [List.getD_eq_getElem?_getD,List.getElem?_eq_getElem h];rfl
theorem len1 {α:Type}{R:Rp α}{pre:α×Unit->Prop}{β:Type}{S:Rp β}{f:α×Unit->β}:∀ vs H Q E,spF K (aC R aN) pre S f vs H Q E->vs.length=1:=by
 rintro vs H Q E ⟨d,⟨v,_,rfl,_,rfl⟩,_⟩
 rfl
theorem len2 {α β γ:Type}{R:Rp α}{R2:Rp β}{pre:α×β×Unit->Prop}{S:Rp γ}{f:α×β×Unit->γ}:∀ vs H Q E,spF K (aC R (aC R2 aN)) pre S f vs H Q E->vs.length=2:=by
 rintro vs H Q E ⟨d,⟨v,_,rfl,_,w,_,rfl,_,rfl⟩,_⟩
 rfl
theorem len3 {α β γ δ:Type}{R:Rp α}{R2:Rp β}{R3:Rp γ}{pre:α×β×γ×Unit->Prop}{S:Rp δ}{f:α×β×γ×Unit->δ}:∀ vs H Q E,spF K (aC R (aC R2 (aC R3 aN))) pre S f vs H Q E->vs.length=3:=by
 rintro vs H Q E ⟨d,⟨v,_,rfl,_,w,_,rfl,_,x,_,rfl,_,rfl⟩,_⟩
 rfl
theorem len4 {α β γ δ ε:Type}{R:Rp α}{R2:Rp β}{R3:Rp γ}{R4:Rp δ}{pre:α×β×γ×δ×Unit->Prop}{S:Rp ε}{f:α×β×γ×δ×Unit->ε}:∀ vs H Q E,spF K (aC R (aC R2 (aC R3 (aC R4 aN)))) pre S f vs H Q E->vs.length=4:=by
 rintro vs H Q E ⟨d,⟨v,_,rfl,_,w,_,rfl,_,x,_,rfl,_,y,_,rfl,_,rfl⟩,_⟩
 rfl
abbrev ie (K:PySem.W.Frag):Sp:=spF K (aC (cQ cI) aN) (fun d=>4 < d.1.length) cB (fun d=>cC d.1)
abbrev lD (K:PySem.W.Frag):Sp:=spF K (aC (cQ cI) aN) (fun d=>4 < d.1.length) cI (fun d=>Bp.itemCount d.1)
theorem qY (F:aW K mg "item_count" fK ["block"])(N:Nums mg)(B:Blt mg)(g1:Cal P w K mg base "is_paragraph" 1 (ie K)):Cal P w K mg base "item_count" 2 (lD K):=by
 refine F.cal sW len1 (fun f cdv A outer s H vs Q E hr h=>?_)
 obtain ⟨⟨l,u⟩,⟨v,_,rfl,h1,rfl⟩,hp,k⟩:=h
 have hp:4 < l.length:=hp
 refine aH (d:=!cC l) (bN (bn (aQ g1 hr (ad (R:=cQ cI) (d:=l) (ab 0 rfl h1) ag) hp))) (fun hd H' s'=>?_) (fun hd H' s'=>?_)
 ·refine ai (P:=cI K (Bp.itemCount l)) (PX.cast ax ?_) (fun v H2 s2 e=>k v H2 (s'.trans s2) e)
  unfold cC at hd
  unfold Bp.itemCount
  rw [if_neg (by simpa using hd)]
 ·refine ai (P:=cI K (Bp.itemCount l)) (PX.cast (yu ⟨by decide,by decide⟩ (bG (dc (K:=K) (R:=cI) (ab 0 rfl (Mono.mono s' h1)) B.len) (aD N.itemsPlace)) (aD N.itemSize)) ?_) (fun v H2 s2 e=>k v H2 (s'.trans s2) e)
  unfold cC at hd
  unfold Bp.itemCount
  rw [if_pos (by simpa using hd)]
abbrev ui (K:PySem.W.Frag):Sp:=spF K (aC (cL (cT cI)) aN) (fun d=>d.1.length<=1000/\∀ l∈d.1,4 < l.length) cI (fun d=>Bp.de d.1)
theorem rT (F:aW K mg "item_total" fH ["blocks"])(B:Blt mg)(g1:Cal P w K mg base "item_count" 2 (lD K)):Cal P w K mg base "item_total" 3 (ui K):=by
 refine F.cal kL len1 (fun f cdv A outer s H vs Q E hr h=>?_)
 obtain ⟨⟨ls,u⟩,⟨v,_,rfl,h1,rfl⟩,hp,k⟩:=h
 have hp:ls.length<=1000/\∀ l∈ls,4 < l.length:=hp
 refine ai (P:=cI K (Bp.de ls)) (tH (K:=K) rfl (PX.toL (eU (K:=K) (R:=cT cI) (S:=cI) 0 1 Bp.itemCount rfl kL.nd (ab 0 rfl h1) (mv hp.1) ?_)) B.sum uG) (fun v H2 s2 e=>k v H2 s2 e)
 intro i d hd t H' s' r s0 H0' C cl fp
 exact aQ g1 hr (ad (R:=cQ cI) (d:=d) (ab 1 rfl (cQ.ofT r)) ag) (hp.2 d (List.mem_of_getElem? hd))
def aU:Rp Nat:=fun _ n v _=>v=.int n
def pI:Rp Nat:=fun _ n v _=>v=.int ((n:Int) - 1)
instance:Mono aU:=⟨fun _ h=>h⟩
instance:Mono pI:=⟨fun _ h=>h⟩
def fW (l:List Int)(a b:Nat):List (List Int):=(List.range (b - a)).map fun i=>Bp.part l (6+7 * (a+i)) (6+7 * (a+i)+7)
abbrev sN (K:PySem.W.Frag):Sp:=spF K (aC (cT cI) (aC aU (aC pI aN))) (fun d=>d.2.1<=d.2.2.1/\d.2.2.1<=2000/\4 < d.1.length) (cL (cT cI)) (fun d=>fW d.1 d.2.1 d.2.2.1)
abbrev qV (K:PySem.W.Frag):Sp:=spF K (aC (cL cI) (aC aU (aC pI aN))) (fun d=>d.2.1<=d.2.2.1/\d.2.2.1<=2000/\4 < d.1.length) (cL (cM cI)) (fun d=>fW d.1 d.2.1 d.2.2.1)
theorem size7 {a b:Nat}(h:a<=b):Builtin.Range.rangeSize (6+(a:Int) * 7) (6+((b:Int) - 1+1) * 7) 7=((b - a:Nat):Int):=by
 unfold Builtin.Range.rangeSize
 rw [if_pos (by decide)]
 by_cases q:a < b
 ·rw [if_pos (by omega)]
  omega
 ·rw [if_neg (by omega)]
  omega
theorem rg7 {a b:Nat}(h:a<=b)(hb:b<=2000):RgC (6+(a:Int) * 7) (6+((b:Int) - 1+1) * 7) 7 (b - a):=by
 refine ⟨by decide,by decide,?_,size7 h⟩
 unfold Builtin.Range.small
 rw [size7 h]
 simp only [Builtin.Range.rangeFitsLong,Bool.and_eq_true,Bool.or_eq_true,decide_eq_true_eq,beq_iff_eq,show ((7:Int) > 0) by decide,if_true]
 omega
theorem lG {n d:Nat}{k:Nat}{v:Int}(e:v=(k:Int)):HT.sIx n d (some v)=min k n:=by
 rw [e,HT.sIx_nat]
theorem l7 {α:Type}(l:List α){i j:Int}{a b:Nat}(e:i=(a:Int))(e':j=(b:Int)):cut l (some i) (some j)=(l.take b).drop a:=by
 rw [e,e',yN]
theorem mJ (F:aW K mg "items_between" bR ["block","first","last"])(N:Nums mg)(B:Blt mg):Cal P w K mg base "items_between" 1 (sN K):=by
 refine F.cal aP len3 (fun f cdv A outer s H vs Q E hr h=>?_)
 obtain ⟨⟨l,a,b,u⟩,⟨v,_,rfl,h1,v2,_,rfl,h2,v3,_,rfl,h3,rfl⟩,hp,k⟩:=h
 obtain ⟨hp1,hp2,hp3⟩:a<=b/\b<=2000/\4 < l.length:=hp
 have h2:cI K (a:Int) v2 H:=h2
 have h3:cI K ((b:Int) - 1) v3 H:=h3
 refine aF (i:=3) aP.nd rfl (Or.inl rfl) (aY (aD (K:=K) N.itemsPlace) (iK (.inr ⟨by decide,by decide⟩) (ab 1 rfl h2) (aD N.itemSize))) fun v4 H4 s4 h4=>?_
 refine aF (i:=4) aP.nd rfl (Or.inl rfl) (aY (aD (K:=K) N.itemsPlace) (iK (.inr ⟨by decide,by decide⟩) (aY (ab 2 rfl (Mono.mono s4 h3)) ax) (aD N.itemSize))) fun v5 H5 s5 h5=>?_
 refine ai (P:=cL (cT cI) K (fW l a b)) (PX.toL (aaO (K:=K) (S:=cT cI) 5 (fun i=>Bp.part l (6+7 * (a+i)) (6+7 * (a+i)+7)) rfl aP.nd (ab 3 rfl (Mono.mono s5 h4)) (ab 4 rfl h5) (aD N.itemSize) (rg7 hp1 hp2) (Nat.lt_of_le_of_lt (by omega:b - a<=2000) (by decide)) ?_ B.range)) (fun v H2 s2 e=>k v H2 (s4.trans (s5.trans s2)) e)
 intro t ht H' s' s0 H0' C cl fp
 have e1:(6+(a:Int) * 7+(t:Nat) * 7)=((6+7 * (a+t):Nat):Int):=by omega
 have e2:(6+(a:Int) * 7+(t:Nat) * 7)+7=((6+7 * (a+t)+7:Nat):Int):=by omega
 refine PX.cast (mD (K:=K) (R:=cI) (ab 0 rfl (Mono.mono (s4.trans (s5.trans s')) h1)) (aS (K:=K) (ab 5 rfl rfl)) (aS (K:=K) (aY (ab 5 rfl rfl) (aD N.itemSize))) ?_) ?_
 ·rintro ⟨q1,q2⟩
  have q1:HT.sIx l.length 0 (some (6+(a:Int) * 7+(t:Nat) * 7))=0:=q1
  have q2:HT.sIx l.length l.length (some (6+(a:Int) * 7+(t:Nat) * 7+7))=l.length:=q2
  rw [lG e1] at q1
  rw [lG e2] at q2
  have hp3':4 < l.length:=hp3
  omega
 ·exact l7 l e1 e2
theorem kI (F:aW K mg "items_between" bR ["block","first","last"])(N:Nums mg)(B:Blt mg):Cal P w K mg base "items_between" 1 (qV K):=by
 refine F.cal aP len3 (fun f cdv A outer s H vs Q E hr h=>?_)
 obtain ⟨⟨l,a,b,u⟩,⟨v,_,rfl,h1,v2,_,rfl,h2,v3,_,rfl,h3,rfl⟩,hp,k⟩:=h
 obtain ⟨hp1,hp2,hp3⟩:a<=b/\b<=2000/\4 < l.length:=hp
 have h2:cI K (a:Int) v2 H:=h2
 have h3:cI K ((b:Int) - 1) v3 H:=h3
 refine aF (i:=3) aP.nd rfl (Or.inl rfl) (aY (aD (K:=K) N.itemsPlace) (iK (.inr ⟨by decide,by decide⟩) (ab 1 rfl h2) (aD N.itemSize))) fun v4 H4 s4 h4=>?_
 refine aF (i:=4) aP.nd rfl (Or.inl rfl) (aY (aD (K:=K) N.itemsPlace) (iK (.inr ⟨by decide,by decide⟩) (aY (ab 2 rfl (Mono.mono s4 h3)) ax) (aD N.itemSize))) fun v5 H5 s5 h5=>?_
 refine ai (P:=cL (cM cI) K (fW l a b)) (PX.toL (acT (K:=K) (R:=cI) 5 (fun i=>Bp.part l (6+7 * (a+i)) (6+7 * (a+i)+7)) rfl aP.nd (ab 3 rfl (Mono.mono s5 h4)) (ab 4 rfl h5) (aD N.itemSize) (rg7 hp1 hp2) (Nat.lt_of_le_of_lt (by omega:b - a<=2000) (by decide)) ?_ B.range)) (fun v H2 s2 e=>k v H2 (s4.trans (s5.trans s2)) e)
 intro t ht H' s' s0 H0' C cl fp
 have e1:(6+(a:Int) * 7+(t:Nat) * 7)=((6+7 * (a+t):Nat):Int):=by omega
 have e2:(6+(a:Int) * 7+(t:Nat) * 7)+7=((6+7 * (a+t)+7:Nat):Int):=by omega
 exact PX.cast (R:=cF H' cI) (eO (K:=K) (R:=cI) (ab 0 rfl (Mono.mono (s4.trans (s5.trans s')) h1)) (aS (K:=K) (ab 5 rfl rfl)) (aS (K:=K) (aY (ab 5 rfl rfl) (aD N.itemSize)))) (l7 l e1 e2)
def iO (l:List Int):Prop:=13<=l.length/\l.getD 4 0=0/\l.length<=12000
def b7 (l:List Int):List (List Int):=fW l 0 ((l.length - 6) / 7)
theorem qO {l:List Int}(h:iO l):Bp.itemCount l=(((l.length - 6) / 7:Nat):Int):=by
 obtain ⟨h1,h2,h3⟩:=h
 unfold Bp.itemCount
 rw [if_pos h2]
 omega
theorem vB (F:aW K mg "items_of" gj ["block"])(g1:Cal P w K mg base "items_between" 1 (sN K))(g2:Cal P w K mg base "item_count" 2 (lD K)):Cal P w K mg base "items_of" 3 (spF K (aC (cT cI) aN) (fun d=>iO d.1) (cL (cT cI)) (fun d=>b7 d.1)):=by
 refine F.cal qE len1 (fun f cdv A outer s H vs Q E hr h=>?_)
 obtain ⟨⟨l,u⟩,⟨v,_,rfl,h1,rfl⟩,hp,k⟩:=h
 have hp:iO l:=hp
 have hc:=qO hp
 obtain ⟨p1,p2,p3⟩:=hp
 refine ai (P:=cL (cT cI) K (b7 l)) (aQ g1 (hr.mono (by decide)) (ad (R:=cT cI) (d:=l) (ab 0 rfl h1) (ad (R:=aU) (d:=0) (ax (K:=K)) (ad (R:=pI) (d:=(l.length - 6) / 7) ?_ ag))) ⟨Nat.zero_le _,by show (l.length - 6) / 7<=2000;omega,by show 4 < l.length;omega⟩) (fun v H2 s2 e=>k v H2 s2 e)
 refine PX.imp (bG (aQ g2 hr (ad (R:=cQ cI) (d:=l) (PX.toQT (ab 0 rfl h1)) ag) (by show 4 < l.length;omega)) (ax (K:=K))) fun v H _ e=>?_
 have e:v=.int (Bp.itemCount l - 1):=e
 rw [hc] at e
 exact e
theorem tL (F:aW K mg "items_of" gj ["block"])(g1:Cal P w K mg base "items_between" 1 (qV K))(g2:Cal P w K mg base "item_count" 2 (lD K)):Cal P w K mg base "items_of" 3 (spF K (aC (cL cI) aN) (fun d=>iO d.1) (cL (cM cI)) (fun d=>b7 d.1)):=by
 refine F.cal qE len1 (fun f cdv A outer s H vs Q E hr h=>?_)
 obtain ⟨⟨l,u⟩,⟨v,_,rfl,h1,rfl⟩,hp,k⟩:=h
 have hp:iO l:=hp
 have hc:=qO hp
 obtain ⟨p1,p2,p3⟩:=hp
 refine ai (P:=cL (cM cI) K (b7 l)) (aQ g1 (hr.mono (by decide)) (ad (R:=cL cI) (d:=l) (ab 0 rfl h1) (ad (R:=aU) (d:=0) (ax (K:=K)) (ad (R:=pI) (d:=(l.length - 6) / 7) ?_ ag))) ⟨Nat.zero_le _,by show (l.length - 6) / 7<=2000;omega,by show 4 < l.length;omega⟩) (fun v H2 s2 e=>k v H2 s2 e)
 refine PX.imp (bG (aQ g2 hr (ad (R:=cQ cI) (d:=l) (PX.toQ (ab 0 rfl h1)) ag) (by show 4 < l.length;omega)) (ax (K:=K))) fun v H _ e=>?_
 have e:v=.int (Bp.itemCount l - 1):=e
 rw [hc] at e
 exact e
theorem vc (F:aW K mg "has_form" iF ["numbers"])(N:Nums mg)(B:Blt mg):Cal P w K mg base "has_form" 1 (spF K (aC (cL cI) aN) (fun _=>True) cB (fun d=>Bp.cp d.1)):=by
 refine F.cal pV len1 (fun f cdv A outer s H vs Q E hr h=>?_)
 obtain ⟨⟨l,u⟩,⟨v,_,rfl,h1,rfl⟩,hp,k⟩:=h
 have hq:cQ cI K l v H:=cQ.ofL h1
 have kk:∀ (b:Bool) v H',Same H H'->b=Bp.cp l->cB K b v H'->Q v H':=fun b v H' s e h=>k v H' s (by rw [e] at h;exact h)
 refine aH (d:=decide ((l.length:Int)<=4)) (aaq (dc (K:=K) (R:=cI) (ab 0 rfl hq) B.len) (aD N.formPlace)) (fun hd H' s'=>?_) (fun hd H' s'=>?_)
 ·refine ai (P:=cB K false) qe (fun v H2 s2 e=>kk _ v H2 (s'.trans s2) ?_ e)
  unfold Bp.cp
  rw [if_pos (of_decide_eq_true hd)]
 ·have h4:¬ (l.length:Int)<=4:=of_decide_eq_false hd
  have g4:=gd (l:=l) (i:=4) (by omega)
  refine aH (d:=decide (l.getD 4 0=0)) (tw (aI (K:=K) (R:=cI) (ab 0 rfl (Mono.mono s' hq)) (aD N.formPlace) (al (j:=4) rfl g4)) (aD N.paragraph)) (fun hd2 H2 s2=>?_) (fun hd2 H2 s2=>?_)
  ·have q2:=s'.trans s2
   refine aF (i:=1) pV.nd rfl (Or.inl rfl) (bG (dc (K:=K) (R:=cI) (ab 0 rfl (Mono.mono q2 hq)) B.len) (aD N.itemsPlace)) fun v3 H3 s3 h3=>?_
   refine ai (P:=cB K _) (aax (adG (ab 1 rfl h3) (aD N.itemSize)) fun _=>w9 (pH (ad9 (by decide) (ab 1 rfl h3) (aD N.itemSize)) ax)) (fun v H4 s4 e=>kk _ v H4 (q2.trans (s3.trans s4)) ?_ e)
   unfold Bp.cp
   rw [if_neg h4,if_pos (of_decide_eq_true hd2)]
   by_cases q:(l.length:Int) - 6 >= 7
   ·rw [if_pos q,decide_eq_true (show (7:Int)<=(l.length:Int) - 6 from q),Bool.true_and]
   ·rw [if_neg q,decide_eq_false (show ¬ (7:Int)<=(l.length:Int) - 6 from q),Bool.false_and]
  ·have q2:=s'.trans s2
   refine ai (P:=cB K _) (aax (pH (aI (K:=K) (R:=cI) (ab 0 rfl (Mono.mono q2 hq)) (aD N.formPlace) (al (j:=4) rfl g4)) (aD N.display)) fun _=>w9 (pH (dc (K:=K) (R:=cI) (ab 0 rfl (Mono.mono q2 hq)) B.len) (aY (aD N.displayPlace) (aD N.displaySize)))) (fun v H4 s4 e=>kk _ v H4 (q2.trans s4) ?_ e)
   unfold Bp.cp
   rw [if_neg h4,if_neg (of_decide_eq_false hd2)]
   by_cases q:l.getD 4 0=1
   ·rw [if_pos q,decide_eq_true q,Bool.true_and]
    rfl
   ·rw [if_neg q,decide_eq_false q,Bool.false_and]
abbrev jl (K:PySem.W.Frag):Sp:=spF K (aC (cK true cI) (aC (cT (c2 cI cI)) aN)) (fun d=>d.2.1.length < 1000) cB (fun d=>Bp.aK d.1 d.2.1)
theorem lN (F:aW K mg "head_in_range" dI ["block"])(N:Nums mg)(T:Tups K mg)(g1:Cal P w K mg base "all_within" 1 (jl K)):Cal P w K mg base "head_in_range" 2 (spF K (aC (cL cI) aN) (fun d=>4 < d.1.length) cB (fun d=>Bp.bD d.1)):=by
 refine F.cal oo len1 (fun f cdv A outer s H vs Q E hr h=>?_)
 obtain ⟨⟨l,u⟩,⟨v,_,rfl,h1,rfl⟩,hp,k⟩:=h
 have hp:4 < l.length:=hp
 have hq:cQ cI K l v H:=cQ.ofL h1
 refine aH (d:=decide (l.getD 0 0 < l.getD 2 0)) (tu (aI (K:=K) (R:=cI) (ab 0 rfl hq) (aD N.beforeShrink) (al (j:=2) rfl (gd (by omega)))) (aI (K:=K) (R:=cI) (ab 0 rfl hq) (aD N.beforePlace) (al (j:=0) rfl (gd (by omega))))) (fun hd H' s'=>?_) (fun hd H' s'=>?_)
 ·refine ai (P:=cB K _) (PX.cast qe ?_) (fun v H2 s2 e=>k v H2 (s'.trans s2) e)
  show false=Bp.bD l
  unfold Bp.bD
  rw [if_pos (of_decide_eq_true hd)]
 ·refine ai (P:=cB K _) (PX.cast (aQ g1 hr (ad (R:=cK true cI) (d:=l.take 4) (PX.cast (R:=cL cI) (PX.toL (eO (K:=K) (R:=cI) (ab 0 rfl (Mono.mono s' h1)) cE (aS (K:=K) (aD N.headSize)))) (qM l 4)) (ad (R:=cT (c2 cI cI)) (d:=Bp.eT) (vf T.head) ag)) (by show 4 < 1000;decide)) ?_) (fun v H2 s2 e=>k v H2 (s'.trans s2) e)
  show Bp.aK (l.take 4) Bp.eT=Bp.bD l
  unfold Bp.bD Bp.part
  rw [if_neg (of_decide_eq_false hd),List.drop_zero]
theorem ml (F:aW K mg "item_in_range" dY ["item"])(N:Nums mg)(T:Tups K mg)(g1:Cal P w K mg base "all_within" 1 (jl K)):Cal P w K mg base "item_in_range" 2 (spF K (aC (cM cI) aN) (fun d=>d.1.length=7) cB (fun d=>Bp.aR d.1)):=by
 refine F.cal nU len1 (fun f cdv A outer s H vs Q E hr h=>?_)
 obtain ⟨⟨l,u⟩,⟨v,_,rfl,h1,rfl⟩,hp,k⟩:=h
 have hp:l.length=7:=hp
 have hl:cL cI K l v H:=cM.toL h1
 have hq:cQ cI K l v H:=cQ.ofL hl
 refine aH (d:=decide (l.getD 3 0 < l.getD 5 0)) (tu (aI (K:=K) (R:=cI) (ab 0 rfl hq) (aD N.spaceShrink) (al (j:=5) rfl (gd (by omega)))) (aI (K:=K) (R:=cI) (ab 0 rfl hq) (aD N.spacePlace) (al (j:=3) rfl (gd (by omega))))) (fun hd H' s'=>?_) (fun hd H' s'=>?_)
 ·refine ai (P:=cB K _) (PX.cast qe ?_) (fun v H2 s2 e=>k v H2 (s'.trans s2) e)
  show false=Bp.aR l
  unfold Bp.aR
  rw [if_pos (of_decide_eq_true hd)]
 ·refine ai (P:=cB K _) (PX.cast (aQ g1 hr (ad (R:=cK true cI) (d:=l) (ab (R:=cL cI) 0 rfl (Mono.mono s' hl)) (ad (R:=cT (c2 cI cI)) (d:=Bp.eK) (vf T.item) ag)) (by show 7 < 1000;decide)) ?_) (fun v H2 s2 e=>k v H2 (s'.trans s2) e)
  show Bp.aK l Bp.eK=Bp.aR l
  unfold Bp.aR
  rw [if_neg (of_decide_eq_false hd)]
theorem gg (b s u c k f:Int)(r:Vamati.Row):b7 (b::s::u::c::k::f::r.flatMap Vamati.numbersOf)=r.map Vamati.numbersOf:=by
 rw [<-Bp.ip b s u c k f r]
 unfold b7 fW Bp.kz
 have hl:(b::s::u::c::k::f::r.flatMap Vamati.numbersOf).length=6+7 * r.length:=by simp only [List.length_cons,Bp.bH];omega
 rw [hl,show (6+7 * r.length - 6) / 7 - 0=(6+7 * r.length - 6+6) / 7 by omega]
 apply List.map_congr_left
 intro i _
 rw [Nat.zero_add]
theorem iY (F:aW K mg "paragraph_in_range" bW ["block"])(N:Nums mg)(B:Blt mg)(T:Tups K mg)(g1:Cal P w K mg base "all_within" 1 (jl K))
  (g2:Cal P w K mg base "item_in_range" 2 (spF K (aC (cM cI) aN) (fun d=>d.1.length=7) cB (fun d=>Bp.aR d.1)))(g3:Cal P w K mg base "items_of" 3 (spF K (aC (cL cI) aN) (fun d=>iO d.1) (cL (cM cI)) (fun d=>b7 d.1))):
  Cal P w K mg base "paragraph_in_range" 4 (spF K (aC (cL cI) aN) (fun d=>iO d.1/\∀ z∈b7 d.1,z.length=7) cB (fun d=>if Bp.aK (Bp.part d.1 5 6) Bp.bq=false then false else (b7 d.1).all Bp.aR)):=by
 refine F.cal fv len1 (fun f cdv A outer s H vs Q E hr h=>?_)
 obtain ⟨⟨l,u⟩,⟨v,_,rfl,h1,rfl⟩,hp,k⟩:=h
 obtain ⟨hp,hz⟩:iO l/\∀ z∈b7 l,z.length=7:=hp
 refine aH (d:=!Bp.aK (Bp.part l 5 6) Bp.bq) (bN (bn (aQ g1 (hr.mono (by decide)) (ad (R:=cK true cI) (d:=Bp.part l 5 6) (PX.cast (R:=cL cI) (PX.toL (eO (K:=K) (R:=cI) (ab 0 rfl h1) (aS (K:=K) (aD N.firstIndent)) (aS (K:=K) (aD N.itemsPlace)))) (yN l 5 6)) (ad (R:=cT (c2 cI cI)) (d:=Bp.bq) (vf T.first) ag)) (by show 1 < 1000;decide)))) (fun hd H' s'=>?_) (fun hd H' s'=>?_)
 ·refine ai (P:=cB K _) (PX.cast qe ?_) (fun v H2 s2 e=>k v H2 (s'.trans s2) e)
  have hd:Bp.aK (Bp.part l 5 6) Bp.bq=false:=by simpa using hd
  show false=if Bp.aK (Bp.part l 5 6) Bp.bq=false then false else (b7 l).all Bp.aR
  rw [if_pos hd]
 ·have hd:¬ Bp.aK (Bp.part l 5 6) Bp.bq=false:=by simpa using hd
  refine ai (P:=cB K _) (PX.cast (aaG (K:=K) rfl (PX.toL (eU (K:=K) (R:=cM cI) (S:=cB) false 1 Bp.aR rfl fv.nd (aQ g3 hr (ad (R:=cL cI) (d:=l) (ab 0 rfl (Mono.mono s' h1)) ag) hp) ?_ ?_)) B.all aao) ?_) (fun v H2 s2 e=>k v H2 (s'.trans s2) e)
  ·show (b7 l).length < sizeLine
   unfold b7 fW
   rw [List.length_map,List.length_range]
   have:=hp.2.2
   exact Nat.lt_of_le_of_lt (by omega:(l.length - 6) / 7 - 0<=2000) (by decide)
  ·intro i d hd t H2 s2 r s0 H0' C cl fp
   exact aQ g2 (hr.mono (by decide)) (ad (R:=cM cI) (d:=d) (ab 1 rfl r) ag) (hz d (List.mem_of_getElem? hd))
  ·show ((b7 l).map Bp.aR).all id=if Bp.aK (Bp.part l 5 6) Bp.bq=false then false else (b7 l).all Bp.aR
   rw [if_neg hd,List.all_map]
   rfl
theorem zi {l:List Int}{b:Vamatk.Block}(t:Bp.Told l b)(hlen:l.length<=12000)(h0:l.getD 4 0=0):iO l/\(∀ z∈b7 l,z.length=7)/\b7 l=Bp.kz l:=by
 cases t with
 | para b s u c f r hr=>
  have hl:(b::s::u::c::0::f::r.flatMap Vamati.numbersOf).length=6+7 * r.length:=by simp only [List.length_cons,Bp.bH];omega
  have hr':0 < r.length:=List.length_pos_iff.mpr hr
  refine ⟨⟨by omega,h0,hlen⟩,?_,by rw [gg,Bp.ip]⟩
  rw [gg]
  intro z hz
  obtain ⟨a,_,rfl⟩:=List.mem_map.mp hz
  rfl
 | disp b s u c y w h d=>
  have h0:(1:Int)=0:=h0
  omega
theorem kP (F:aW K mg "block_in_range" di ["block"])(N:Nums mg)(T:Tups K mg)(g0:Cal P w K mg base "is_paragraph" 1 (ie K))(g1:Cal P w K mg base "all_within" 1 (jl K))
  (g2:Cal P w K mg base "head_in_range" 2 (spF K (aC (cL cI) aN) (fun d=>4 < d.1.length) cB (fun d=>Bp.bD d.1)))
  (g3:Cal P w K mg base "paragraph_in_range" 4 (spF K (aC (cL cI) aN) (fun d=>iO d.1/\∀ z∈b7 d.1,z.length=7) cB (fun d=>if Bp.aK (Bp.part d.1 5 6) Bp.bq=false then false else (b7 d.1).all Bp.aR))):
  Cal P w K mg base "block_in_range" 5 (spF K (aC (cL cI) aN) (fun d=>d.1.length<=12000/\∃ b,Bp.Told d.1 b) cB (fun d=>Bp.bm d.1)):=by
 refine F.cal ma len1 (fun f cdv A outer s H vs Q E hr h=>?_)
 obtain ⟨⟨l,u⟩,⟨v,_,rfl,h1,rfl⟩,hp,k⟩:=h
 obtain ⟨hp,bb,tt⟩:l.length<=12000/\∃ b,Bp.Told l b:=hp
 have h4:4 < l.length:=by
  cases tt with
  | para b s u c f r hr=>simp only [List.length_cons];omega
  | disp b s u c y w h d=>simp
 refine aH (d:=!Bp.bD l) (bN (bn (aQ g2 (hr.mono (by decide)) (ad (R:=cL cI) (d:=l) (ab 0 rfl h1) ag) h4))) (fun hd H' s'=>?_) (fun hd H' s'=>?_)
 ·refine ai (P:=cB K _) (PX.cast qe ?_) (fun v H2 s2 e=>k v H2 (s'.trans s2) e)
  show false=Bp.bm l
  unfold Bp.bm
  rw [if_pos (by simpa using hd)]
 ·have hd:¬ Bp.bD l=false:=by simpa using hd
  refine aH (d:=cC l) (bn (aQ g0 (hr.mono (by decide)) (ad (R:=cQ cI) (d:=l) (PX.toQ (ab 0 rfl (Mono.mono s' h1))) ag) h4)) (fun hd2 H2 s2=>?_) (fun hd2 H2 s2=>?_)
  ·have h0:l.getD 4 0=0:=of_decide_eq_true hd2
   obtain ⟨p1,p2,p3⟩:=zi tt hp h0
   refine ai (P:=cB K _) (PX.cast (aQ g3 hr (ad (R:=cL cI) (d:=l) (ab 0 rfl (Mono.mono (s'.trans s2) h1)) ag) ⟨p1,p2⟩) ?_) (fun v H3 s3 e=>k v H3 (s'.trans (s2.trans s3)) e)
   show (if Bp.aK (Bp.part l 5 6) Bp.bq=false then false else (b7 l).all Bp.aR)=Bp.bm l
   unfold Bp.bm Bp.dw
   rw [if_neg hd,if_pos h0,p3]
  ·have h0:¬ l.getD 4 0=0:=of_decide_eq_false hd2
   refine ai (P:=cB K _) (PX.cast (aQ g1 (hr.mono (by decide)) (ad (R:=cK true cI) (d:=l.drop 5) (PX.cast (R:=cL cI) (PX.toL (eO (K:=K) (R:=cI) (ab 0 rfl (Mono.mono (s'.trans s2) h1)) (aS (K:=K) (aD N.displayPlace)) cE)) (ik l 5)) (ad (R:=cT (c2 cI cI)) (d:=Bp.cP) (vf T.display) ag)) (by show 4 < 1000;decide)) ?_) (fun v H3 s3 e=>k v H3 (s'.trans (s2.trans s3)) e)
   show Bp.aK (l.drop 5) Bp.cP=Bp.bm l
   unfold Bp.bm
   rw [if_neg hd,if_neg h0]
abbrev sI (K:PySem.W.Frag):Sp:=spF K (aC (cL cI) (aC (cL (cT cI)) aN)) (fun d=>d.1.length<=12000/\d.2.1.length<=1000/\∀ l∈d.2.1,4 < l.length) cI (fun d=>Bp.aZ d.1 d.2.1)
theorem my (F:aW K mg "block_refusal" dQ ["numbers","others"])(N:Nums mg)(B:Blt mg)(g1:Cal P w K mg base "has_form" 1 (spF K (aC (cL cI) aN) (fun _=>True) cB (fun d=>Bp.cp d.1)))
  (g2:Cal P w K mg base "block_in_range" 5 (spF K (aC (cL cI) aN) (fun d=>d.1.length<=12000/\∃ b,Bp.Told d.1 b) cB (fun d=>Bp.bm d.1)))(g3:Cal P w K mg base "item_total" 3 (ui K))(g4:Cal P w K mg base "item_count" 2 (lD K)):
  Cal P w K mg base "block_refusal" 6 (sI K):=by
 refine F.cal nR len2 (fun f cdv A outer s H vs Q E hr h=>?_)
 obtain ⟨⟨l,os,u⟩,⟨v,_,rfl,h1,v2,_,rfl,h2,rfl⟩,hp,k⟩:=h
 obtain ⟨p1,p2,p3⟩:l.length<=12000/\os.length<=1000/\∀ l∈os,4 < l.length:=hp
 have kk:∀ (b:Int) v H',Same H H'->b=Bp.aZ l os->cI K b v H'->Q v H':=fun b v H' s e h=>k v H' s (by rw [e] at h;exact h)
 refine aH (d:=!Bp.cp l) (bN (bn (aQ g1 (hr.mono (by decide)) (ad (R:=cL cI) (d:=l) (ab 0 rfl h1) ag) trivial))) (fun hd H' s'=>?_) (fun hd H' s'=>?_)
 ·refine ai (P:=cI K (-1)) (aD N.badForm) (fun v H2 s2 e=>kk _ v H2 (s'.trans s2) ?_ e)
  unfold Bp.aZ
  rw [if_pos (by simpa using hd)]
 ·have hd:¬ Bp.cp l=false:=by simpa using hd
  have tt:=Bp.lm (l:=l) (by simpa using hd)
  have h4:4 < l.length:=by
   obtain ⟨b,tt⟩:=tt
   cases tt with
   | para b s u c f r hr=>simp only [List.length_cons];omega
   | disp b s u c y w h d=>simp
  refine aH (d:=!Bp.bm l) (bN (bn (aQ g2 hr (ad (R:=cL cI) (d:=l) (ab 0 rfl (Mono.mono s' h1)) ag) ⟨p1,tt⟩))) (fun hd2 H2 s2=>?_) (fun hd2 H2 s2=>?_)
  ·refine ai (P:=cI K (-2)) (aD N.outOfRange) (fun v H3 s3 e=>kk _ v H3 (s'.trans (s2.trans s3)) ?_ e)
   unfold Bp.aZ
   rw [if_neg hd,if_pos (by simpa using hd2)]
  ·have hd2:¬ Bp.bm l=false:=by simpa using hd2
   have q2:=s'.trans s2
   refine aH (PWX.pt (xF (p:=decide ((60:Int) < (os.length:Int)+1)) (tu (aY (dc (K:=K) (R:=cT cI) (PX.toQ (ab 1 rfl (Mono.mono q2 h2))) B.len) ax) (aD N.mostBlocks)) (t6 (p:=decide ((600:Int) < Bp.de os+Bp.itemCount l)) (tu (aY (aQ g3 (hr.mono (by decide)) (ad (R:=cL (cT cI)) (d:=os) (ab 1 rfl (Mono.mono q2 h2)) ag) ⟨p2,p3⟩) (aQ g4 (hr.mono (by decide)) (ad (R:=cQ cI) (d:=l) (PX.toQ (ab 0 rfl (Mono.mono q2 h1))) ag) h4)) (aD N.mostItems))))) (fun hd3 H3 s3=>?_) (fun hd3 H3 s3=>?_)
   ·refine ai (P:=cI K (-3)) (aD N.tooMany) (fun v H4 s4 e=>kk _ v H4 (q2.trans (s3.trans s4)) ?_ e)
    unfold Bp.aZ
    rw [if_neg hd,if_neg hd2,if_pos]
    simpa using hd3
   ·refine ai (P:=cI K 0) (aD N.done) (fun v H4 s4 e=>kk _ v H4 (q2.trans (s3.trans s4)) ?_ e)
    unfold Bp.aZ
    rw [if_neg hd,if_neg hd2,if_neg]
    simp only [Bool.or_eq_false_iff,decide_eq_false_iff_not] at hd3
    omega
end
structure Ob (H0:Hp)(x C dx:Addr)(fl:List (Str×V))(H:Hp):Prop where
 obj:H x=some (.ins C dx fl)
 kp:∀ b o,H0 b=some o->b≠x->H b=some o
theorem Ob.start {x C dx:Addr}{fl:List (Str×V)}{H:Hp}(h:H x=some (.ins C dx fl)):Ob H x C dx fl H:=⟨h,fun _ _ e _=>e⟩
theorem Ob.later {H0 H H':Hp}{x C dx:Addr}{fl:List (Str×V)}(o:Ob H0 x C dx fl H)(s:Same H H'):Ob H0 x C dx fl H':=⟨s _ _ o.obj,fun b u e n=>s _ _ (o.kp b u e n)⟩
theorem Ob.put {H0 H:Hp}{x C dx:Addr}{fl fl':List (Str×V)}(o:Ob H0 x C dx fl H):Ob H0 x C dx fl' (upd H x (.ins C dx fl')):=⟨aj,fun b u e n=>by rw [am n];exact o.kp b u e n⟩
theorem gm:∀ {fl:List (Str×V)} {ns:List Str} {f:Str} {v:V},fl.map (·.1)=ns->f ∉ ns->dZ f v fl=fl++[(f,v)]
 | [],_,_,_,_,_=>rfl
 | (g,x)::r,ns,f,v,e,h=>by
  subst e
  have h1:¬ g=f:=fun z=>h (by rw [<-z];exact List.mem_cons_self)
  show (if g=f then (g,v)::r else (g,x)::dZ f v r)=_
  rw [if_neg h1,gm rfl fun z=>h (List.mem_cons_of_mem _ z)]
  rfl
section
variable {X:Cx}{σ:L2.St}{H0 H:Hp}{e:Expr}{pos p p2 pos':Pos}{K:PySem.W.Frag}{D:Ends}{rest:List Stmt}{x C dx:Addr}{fl:List (Str×V)}{f:Str}{u:V}
theorem bt (c:Cls X.K C)(n:aA X.K C f)(ns:List Str)(o:Ob H0 x C dx fl H)(he:PX X σ H e (cV K u))(k:∀ H',Ob H0 x C dx (fl++[(f,u)]) H'->(∀ b o,H b=some o->b≠x->H' b=some o)->SX X D rest σ H')(hf:f ∉ ns)(hns:fl.map (·.1)=ns:=by rfl)(hl:ns.length < 1000:=by decide)(hx:σ[0]?=some (some (.ref x)):=by rfl)
  (hN:X.N[0]?=some ("self":Str):=by rfl)(hv':Vis X.env.scope "self":=by first | exact Or.inl rfl | exact Or.inr (Or.inl rfl) | exact Or.inr (Or.inr rfl))
  (hs:swapsWith e (some (.Attribute (.Name "self" p) f pos')) pos.line X.env=pure false:=by rfl):SX X D (.Assign [.Attribute (.Name "self" p) f pos'] e pos::rest) σ H:=by
 refine ka c n he (ab (R:=cV) (K:=K) 0 hx rfl hN hv') o.obj (by rw [<-hns,List.length_map] at hl;exact hl) (fun v H' s' e1=>?_) hs
 have e1:v=u:=e1
 subst e1
 rw [gm hns hf]
 exact k _ ((o.later s').put) fun b q hb z=>by rw [am z];exact s' _ _ hb
end
structure acU (K:PySem.W.Frag)(C:Addr):Prop where
 cl:Cls K C
 width:aA K C "width"
 space:aA K C "space"
 shrink:aA K C "shrink"
 cost:aA K C "cost"
def riF (w s h c:Int):List (Str×V):=[("width",.int w),("space",.int s),("shrink",.int h),("cost",.int c)]
def cRI (C:Addr):Rp Vamati.Item:=cO C fun a=>riF a.width a.space a.shrink a.cost
instance {C:Addr}:Mono (cRI C):=inferInstanceAs (Mono (cO C _))
instance {C:Addr}:Frz (cRI C):=inferInstanceAs (Frz (cO C _))
structure qg (K:PySem.W.Frag)(C:Addr):Prop where
 cl:Cls K C
 first:aA K C "first"
 last:aA K C "last"
 slack:aA K C "slack"
 overfull:aA K C "overfull"
 cost:aA K C "cost"
def adK (x:Bp.Sp5):List (Str×V):=[("first",.int x.first),("last",.int x.last),("slack",.int x.slack),("overfull",.int x.over),("cost",.int x.cost)]
def cSp (C:Addr):Rp Bp.Sp5:=cO C adK
instance {C:Addr}:Mono (cSp C):=inferInstanceAs (Mono (cO C _))
instance {C:Addr}:Frz (cSp C):=inferInstanceAs (Frz (cO C _))
section
variable {P:Program}{w:World}{K:PySem.W.Frag}{mg:Str->Option Value}{base:Heap}
theorem ay {X:Cx}{σ:L2.St}{H0:Hp}{pos:Pos}(i:Nat){x:Str}{v:V}(hv:σ[i]?=some (some v):=by rfl)(hN:X.N[i]?=some x:=by rfl)(hv':Vis X.env.scope x:=by first | exact Or.inl rfl | exact Or.inr (Or.inl rfl) | exact Or.inr (Or.inr rfl))
  (hd:(x == ("__debug__":Str))=false:=by decide)(hcd:(x == ("__classdict__":Str))=false:=by decide):PX X σ H0 (.Name x pos) (cV K v):=ab (R:=cV) i hv rfl hN hv' hd hcd
abbrev vd (K:PySem.W.Frag)(C:Addr):Sp:=spI K C (aC cI (aC cI (aC cI (aC cI aN)))) (fun _=>True) (fun d x H=>∃ dx,H x=some (.ins C dx (riF d.1 d.2.1 d.2.2.1 d.2.2.2.1)))
theorem xQ {C:Addr}(F:gr K mg "RowItem" C "RowItem.__init__" ec ["self","width","space","shrink","cost"])(c:acU K C):gz P w K mg base "RowItem" C 1 (vd K C):=by
 refine F.cal qu (fun vs H Q E h=>?_) (fun f cdv A outer s H vs Q E hr h=>?_)
 ·obtain ⟨x,dx,d,ws,rfl,_,⟨v1,_,rfl,_,v2,_,rfl,_,v3,_,rfl,_,v4,_,rfl,_,rfl⟩,_⟩:=h
  rfl
 ·obtain ⟨x,dx,⟨a,b,e,g,u⟩,ws,rfl,hx,⟨v1,_,rfl,h1,v2,_,rfl,h2,v3,_,rfl,h3,v4,_,rfl,h4,rfl⟩,_,k⟩:=h
  have h1:v1=.int a:=h1
  have h2:v2=.int b:=h2
  have h3:v3=.int e:=h3
  have h4:v4=.int g:=h4
  subst h1 h2 h3 h4
  refine bt (K:=K) c.cl c.width [] (Ob.start hx) (ay 1) (fun H1 o1 _=>?_) (by simp)
  refine bt (K:=K) c.cl c.space ["width"] o1 (ay 2) (fun H2 o2 _=>?_) (by decide +kernel)
  refine bt (K:=K) c.cl c.shrink ["width","space"] o2 (ay 3) (fun H3 o3 _=>?_) (by decide +kernel)
  refine bt (K:=K) c.cl c.cost ["width","space","shrink"] o3 (ay 4) (fun H4 o4 _=>?_) (by decide +kernel)
  exact bj (k H4 ⟨dx,o4.obj⟩ o4.kp)
abbrev aaF (K:PySem.W.Frag)(C:Addr):Sp:=spI K C (aC cI (aC cI (aC cI (aC cI (aC cI aN))))) (fun _=>True) (fun d x H=>∃ dx,H x=some (.ins C dx (adK ⟨d.1,d.2.1,d.2.2.1,d.2.2.2.1,d.2.2.2.2.1⟩)))
theorem act {C:Addr}(F:gr K mg "Span" C "Span.__init__" gJ ["self","first","last","slack","overfull","cost"])(c:qg K C):gz P w K mg base "Span" C 1 (aaF K C):=by
 refine F.cal vY (fun vs H Q E h=>?_) (fun f cdv A outer s H vs Q E hr h=>?_)
 ·obtain ⟨x,dx,d,ws,rfl,_,⟨v1,_,rfl,_,v2,_,rfl,_,v3,_,rfl,_,v4,_,rfl,_,v5,_,rfl,_,rfl⟩,_⟩:=h
  rfl
 ·obtain ⟨x,dx,⟨a,b,e,g,i,u⟩,ws,rfl,hx,⟨v1,_,rfl,h1,v2,_,rfl,h2,v3,_,rfl,h3,v4,_,rfl,h4,v5,_,rfl,h5,rfl⟩,_,k⟩:=h
  have h1:v1=.int a:=h1
  have h2:v2=.int b:=h2
  have h3:v3=.int e:=h3
  have h4:v4=.int g:=h4
  have h5:v5=.int i:=h5
  subst h1 h2 h3 h4 h5
  refine bt (K:=K) c.cl c.first [] (Ob.start hx) (ay 1) (fun H1 o1 _=>?_) (by simp)
  refine bt (K:=K) c.cl c.last ["first"] o1 (ay 2) (fun H2 o2 _=>?_) (by decide +kernel)
  refine bt (K:=K) c.cl c.slack ["first","last"] o2 (ay 3) (fun H3 o3 _=>?_) (by decide +kernel)
  refine bt (K:=K) c.cl c.overfull ["first","last","slack"] o3 (ay 4) (fun H4 o4 _=>?_) (by decide +kernel)
  refine bt (K:=K) c.cl c.cost ["first","last","slack","overfull"] o4 (ay 5) (fun H5 o5 _=>?_) (by decide +kernel)
  exact bj (k H5 ⟨dx,o5.obj⟩ o5.kp)
end
structure oi (K:PySem.W.Frag)(C:Addr):Prop where
 cl:Cls K C
 first:aA K C "first_items"
 last:aA K C "last_items"
 costs:aA K C "costs"
 lefts:aA K C "lefts"
 rights:aA K C "rights"
 tlefts:aA K C "tight_lefts"
 trights:aA K C "tight_rights"
def pcF (a:Nat->Addr):List (Str×V):=[("first_items",.ref (a 0)),("last_items",.ref (a 1)),("costs",.ref (a 2)),("lefts",.ref (a 3)),("rights",.ref (a 4)),("tight_lefts",.ref (a 5)),("tight_rights",.ref (a 6))]
abbrev pcN:List Str:=["first_items","last_items","costs","lefts","rights","tight_lefts","tight_rights"]
theorem aeP:pcN.Nodup:=by decide +kernel
theorem aar (a:Nat->Addr){i:Nat}{f:Str}{v:V}(h:(pcF a)[i]?=some (f,v)):(pcF a).lookup f=some v:=lk (ns:=pcN) i rfl aeP h
def bsN (r:Vamati.Row)(n:Nat):List Nat:=(List.range n).filter (Bp.begs r)
def esN (r:Vamati.Row)(n:Nat):List Nat:=(List.range n).filter (Vamati.mayEnd r)
def pcL (r:Vamati.Row)(n:Nat):Nat->List Int
 | 0=>(bsN r n).map fun (j:Nat)=>(j:Int)
 | 1=>(esN r n).map fun (j:Nat)=>(j:Int)
 | 2=>(esN r n).map (Bp.xG r)
 | 3=>(bsN r n).map (Bp.aw r)
 | 4=>(esN r n).map fun j=>Bp.aw r j+Bp.wid r j
 | 5=>(bsN r n).map fun j=>Bp.aw r j - Bp.ash r j
 | 6=>(esN r n).map fun j=>Bp.aw r j+Bp.wid r j - Bp.ash r j
 | _=>[]
structure afb (H0:Hp)(p:Addr)(a:Nat->Addr):Prop where
 p0:H0 p=none
 a0:∀ j,j < 7->H0 (a j)=none
 inj:∀ i j,i < 7->j < 7->a i=a j->i=j
structure lQ (C p dx:Addr)(a:Nat->Addr)(L:Nat->List Int)(H0 H:Hp):Prop where
 same:Same H0 H
 obj:H p=some (.ins C dx (pcF a))
 lst:∀ j,j < 7->H (a j)=some (.lst ((L j).map V.int))
theorem lQ.later {C p dx:Addr}{a:Nat->Addr}{L:Nat->List Int}{H0 H H':Hp}(h:lQ C p dx a L H0 H)(s:Same H H'):lQ C p dx a L H0 H':=⟨h.same.trans s,s _ _ h.obj,fun j hj=>s _ _ (h.lst j hj)⟩
def fx (L:Nat->List Int)(m:Nat)(n:Int):Nat->List Int:=fun j=>if j=m then L m++[n] else L j
theorem lQ.app {C p dx:Addr}{a:Nat->Addr}{L:Nat->List Int}{H0 H H':Hp}{m:Nat}{n:Int}(st:afb H0 p a)(h:lQ C p dx a L H0 H)(s:Same H H')(hm:m < 7):lQ C p dx a (fx L m n) H0 (upd H' (a m) (.lst ((L m).map V.int++[.int n]))):=by
 have h':=h.later s
 refine ⟨bK h'.same (st.a0 m hm),?_,fun j hj=>?_⟩
 ·rw [am (b9 h'.obj (h'.lst m hm) (by intro z;cases z))]
  exact h'.obj
 ·unfold fx
  by_cases e:j=m
  ·subst e
   rw [aj,if_pos rfl,List.map_append]
   rfl
  ·rw [am (fun z=>e (st.inj _ _ hj hm z)),if_neg e]
   exact h'.lst j hj
theorem p9 (r:Vamati.Row)(n:Nat):bsN r (n+1)=if Bp.begs r n=true then bsN r n++[n] else bsN r n:=by
 unfold bsN
 rw [List.range_succ,List.filter_append,List.filter_cons,List.filter_nil]
 split
 ·rfl
 ·rw [List.append_nil]
theorem kE (r:Vamati.Row)(n:Nat):esN r (n+1)=if Vamati.mayEnd r n=true then esN r n++[n] else esN r n:=by
 unfold esN
 rw [List.range_succ,List.filter_append,List.filter_cons,List.filter_nil]
 split
 ·rfl
 ·rw [List.append_nil]
def nF (r:Vamati.Row)(n:Nat):Nat->List Int:=if Bp.begs r n=true then fx (fx (fx (pcL r n) 0 n) 3 (Bp.aw r n)) 5 (Bp.aw r n - Bp.ash r n) else pcL r n
theorem vX (r:Vamati.Row)(n:Nat):pcL r (n+1)=if Vamati.mayEnd r n=true then fx (fx (fx (fx (nF r n) 1 n) 2 (Bp.xG r n)) 4 (Bp.aw r n+Bp.wid r n)) 6 (Bp.aw r n+Bp.wid r n - Bp.ash r n) else nF r n:=by
 funext j
 unfold nF
 by_cases hb:Bp.begs r n=true<;>by_cases he:Vamati.mayEnd r n=true
 all_goals
  simp only [hb,he,if_true,if_false,Bool.false_eq_true]
  match j with
  | 0=>simp [fx,pcL,p9,hb]
  | 1=>simp [fx,pcL,kE,he]
  | 2=>simp [fx,pcL,kE,he]
  | 3=>simp [fx,pcL,p9,hb]
  | 4=>simp [fx,pcL,kE,he]
  | 5=>simp [fx,pcL,p9,hb]
  | 6=>simp [fx,pcL,kE,he]
  | j+7=>simp [fx,pcL]
theorem adg (r:Vamati.Row)(n:Nat):(bsN r n).length<=n:=by
 have:=List.length_filter_le (Bp.begs r) (List.range n)
 rw [List.length_range] at this
 exact this
theorem uJ (r:Vamati.Row)(n:Nat):(esN r n).length<=n:=by
 have:=List.length_filter_le (Vamati.mayEnd r) (List.range n)
 rw [List.length_range] at this
 exact this
theorem yM (r:Vamati.Row)(n j:Nat):(pcL r n j).length<=n:=by
 have h1:=adg r n
 have h2:=uJ r n
 match j with
 | 0=>simpa [pcL] using h1
 | 1=>simpa [pcL] using h2
 | 2=>simpa [pcL] using h2
 | 3=>simpa [pcL] using h1
 | 4=>simpa [pcL] using h2
 | 5=>simpa [pcL] using h1
 | 6=>simpa [pcL] using h2
 | j+7=>simp [pcL]
theorem cN {L:Nat->List Int}{m:Nat}{n:Int}{b:Nat}(h:∀ j,(L j).length<=b)(j:Nat):(fx L m n j).length<=b+1:=by
 unfold fx
 have:=h j
 have:=h m
 split
 ·rw [List.length_append]
  simp
  omega
 ·omega
section
variable {P:Program}{w:World}{K:PySem.W.Frag}{mg:Str->Option Value}{base:Heap}
theorem lQ.fld {X:Cx}{σ:L2.St}{e:Expr}{pos:Pos}{C p dx:Addr}{a:Nat->Addr}{L:Nat->List Int}{H0 H:Hp}{f:Str}(j:Nat)(h:lQ C p dx a L H0 H)(c:Cls X.K C)(n:aA X.K C f)(he:PX X σ H e (cV K (.ref p)))(hj:(pcF a)[j]?=some (f,.ref (a j)):=by rfl)(hb:attributeBase e f X.env (eval e X.env)=eval e X.env:=by rfl):
  PX X σ H (.Attribute e f pos) (fun v _=>v=.ref (a j)):=
 kd c n (fun H1 s1 Q k=>he H1 s1 Q fun v H2 s2 e2=>k v H2 s2 ⟨p,dx,pcF a,.ref (a j),e2,(s1.trans s2) _ _ h.obj,aar a hj,rfl⟩) hb
abbrev spG (K:PySem.W.Frag)(C CR:Addr):Sp:=fun vs H Q _=>∃ (p dx:Addr) (a:Nat->Addr) (r:Vamati.Row) (v:V) (H0:Hp),vs=[.ref p,v]/\afb H0 p a/\lQ C p dx a (fun _=>[]) H0 H/\cL (cRI CR) K r v H0/\r.length<=1000/\(∀ a∈r,-1<=a.cost)/\
 ∀ H',lQ C p dx a (pcL r r.length) H0 H'->Q .non H'
theorem j8 {X:Cx}{σ:L2.St}{e:Expr}{pos:Pos}{CR:Addr}{d:Vamati.Item}{H:Hp}{f:Str}{n:Int}(i:Nat)(c:Cls X.K CR)(na:aA X.K CR f)(he:PX X σ H e (cRI CR K d))(hi:(riF d.width d.space d.shrink d.cost)[i]?=some (f,.int n):=by rfl)(hb:attributeBase e f X.env (eval e X.env)=eval e X.env:=by rfl):
  PX X σ H (.Attribute e f pos) (cI K n):=
 kd c na (fun H1 s1 Q k=>he H1 s1 Q fun v H2 s2 ⟨p,dx,e2,e3⟩=>k v H2 s2 ⟨p,dx,_,.int n,e2,e3,lk (ns:=["width","space","shrink","cost"]) i rfl (by decide +kernel) hi,rfl⟩) hb
theorem aca {r:Vamati.Row}{i:Nat}{d:Vamati.Item}(hd:r[i]?=some d)(hc:-1<=d.cost):((!decide (d.cost=-1)) || decide ((i:Int)=(r.length:Int) - 1))=Vamati.mayEnd r i:=by
 have hi:=(List.getElem?_eq_some_iff.mp hd).1
 rw [Bool.eq_iff_iff]
 unfold Vamati.mayEnd
 rw [hd]
 simp only [Option.map_some,Option.getD_some,Bool.or_eq_true,Bool.not_eq_true',decide_eq_false_iff_not,decide_eq_true_iff]
 omega
theorem a9 {n:Nat}(h:n<=2000):n < sizeLine:=Nat.lt_of_le_of_lt h (by decide)
theorem zO {C CR:Addr}(F:aT K C "gather" "Pieces.gather" dS ["self","row"])(c:oi K C)(cr:acU K CR)(N:Nums mg)(B:Blt mg):az P w K mg base C "gather" 1 (spG K C CR):=by
 refine F.cal iS (fun vs H Q E h=>?_) (fun f cdv A outer s H vs Q E hr h=>?_)
 ·obtain ⟨p,dx,a,r,v,H0,rfl,_⟩:=h
  rfl
 ·obtain ⟨p,dx,a,r,v,H0,rfl,st,at0,⟨l,xs,rfl,q,z⟩,hlen,hcost,k⟩:=h
  have nd:=iS.nd
  refine aF (i:=2) (P:=cI K 0) nd rfl (Or.inl rfl) ax fun v2 H2 s2 e2=>?_
  have e2:v2=.int 0:=e2
  subst e2
  refine aF (i:=3) (P:=cI K 0) nd rfl (Or.inl rfl) ax fun v3 H3 s3 e3=>?_
  have e3:v3=.int 0:=e3
  subst e3
  refine aF (i:=4) (P:=cB K true) nd rfl (Or.inl rfl) qe fun v4 H4 s4 e4=>?_
  have e4:v4=.bl true:=e4
  subst e4
  have at4:=at0.later (s2.trans (s3.trans s4))
  refine kN (K:=K) (l:=l) (xs:=xs) (i1:=5) (i2:=6) PassesOwn.never rfl (ay 1) (at4.same.seq q) (jd rfl (bE (bg (i:=5) nd rfl (Or.inl rfl)) (bE (bg (i:=6) nd rfl (Or.inl rfl)) gN))) (fun H5 s5=>?_) B.enum
  refine ⟨fun i σ' H'=>i<=r.length/\lQ C p dx a (pcL r i) H0 H'/\∃ o5 o6 o7 o8,σ'=[some (.ref p),some (.ref l),some (.int (Bp.aw r i)),some (.int (Bp.ash r i)),some (.bl (Bp.begs r i)),o5,o6,o7,o8],?_,?_,?_,?_⟩
  ·refine ⟨Nat.zero_le _,?_,none,none,none,none,rfl⟩
   have e:pcL r 0=fun _=>[]:=by
    funext j
    match j with
    | 0=>rfl
    | 1=>rfl
    | 2=>rfl
    | 3=>rfl
    | 4=>rfl
    | 5=>rfl
    | 6=>rfl
    | j+7=>rfl
   rw [e]
   exact at4.later s5
  ·rintro i σ' H' ⟨_,at',_⟩
   exact at'.same.seq q
  ·rintro i u σ' H' hu ⟨hi,at1,o5,o6,o7,o8,rfl⟩ H2' s2' back
   obtain ⟨d,hd,rd⟩:=z.getV hu
   have hi':i < r.length:=(List.getElem?_eq_some_iff.mp hd).1
   have at2:=at1.later s2'
   have cd:=hcost d (List.mem_of_getElem? hd)
   have rd':∀ {H9},Same H0 H9->cRI CR K d u H9:=fun s9=>Mono.mono s9 rd
   refine aF (i:=7) (P:=cI K (Bp.aw r i+d.width)) nd rfl (Or.inl rfl) (aY (ab (R:=cI) 2 rfl rfl) (j8 0 cr.cl cr.width (ab 6 rfl (rd' at2.same)))) fun v7 H7 s7 e7=>?_
   have e7:v7=.int (Bp.aw r i+d.width):=e7
   subst e7
   have at7:=at2.later s7
   refine aaW (d:=Bp.begs r i) (fun H8=>lQ C p dx a (nF r i) H0 H8) (bn (ab (R:=cB) 4 rfl (K:=K) rfl)) (fun he H8 s8=>?_) (fun he H8 s8=>?_) (fun H8 at8=>?_)
   ·have at8:=at7.later s8
    have b0:∀ j,(pcL r i j).length<=1000:=fun j=>Nat.le_trans (yM r i j) (by omega)
    refine cw (P:=cI K i) (at8.fld 0 c.cl c.first (ay (K:=K) 0)) (ab (R:=cI) 5 rfl rfl) (at8.lst 0 (by decide)) (a9 (by rw [List.length_map];have:=b0 0;omega)) fun v9 H9 s9 e9=>?_
    have e9:v9=.int i:=e9
    subst e9
    have at9:=at8.app (n:=i) st s9 (m:=0) (by decide)
    refine cw (P:=cI K (Bp.aw r i)) (at9.fld 3 c.cl c.lefts (ay (K:=K) 0)) (ab (R:=cI) 2 rfl rfl) (at9.lst 3 (by decide)) (a9 (by rw [List.length_map];have:=cN (m:=0) (n:=(i:Int)) b0 3;omega)) fun v10 H10 s10 e10=>?_
    have e10:v10=.int (Bp.aw r i):=e10
    subst e10
    have at10:=at9.app (n:=Bp.aw r i) st s10 (m:=3) (by decide)
    refine cw (P:=cI K (Bp.aw r i - Bp.ash r i)) (at10.fld 5 c.cl c.tlefts (ay (K:=K) 0)) (bG (ab (R:=cI) 2 rfl rfl) (ab (R:=cI) 3 rfl rfl)) (at10.lst 5 (by decide)) (a9 (by rw [List.length_map];have:=cN (m:=3) (n:=Bp.aw r i) (cN (m:=0) (n:=(i:Int)) b0) 5;omega)) fun v11 H11 s11 e11=>?_
    have e11:v11=.int (Bp.aw r i - Bp.ash r i):=e11
    subst e11
    have at11:=at10.app (n:=Bp.aw r i - Bp.ash r i) st s11 (m:=5) (by decide)
    have eL:fx (fx (fx (pcL r i) 0 i) 3 (Bp.aw r i)) 5 (Bp.aw r i - Bp.ash r i)=nF r i:=by unfold nF;rw [if_pos he]
    rw [eL] at at11
    exact bj ⟨rfl,at11⟩
   ·have at8:=at7.later s8
    have eL:pcL r i=nF r i:=by unfold nF;rw [if_neg (by rw [he];simp)]
    rw [eL] at at8
    exact at8
   ·refine aF (i:=8) (P:=cB K (Vamati.mayEnd r i)) nd rfl (Or.inl rfl) (PX.cast (afq (ae5 (j8 3 cr.cl cr.cost (ab 6 rfl (rd' at8.same))) (aD N.never)) fun _=>w9 (pH (ab (R:=cI) 5 rfl rfl) (bG (dc (K:=K) (R:=cRI CR) (PX.toQ (ab 1 rfl ⟨l,xs,rfl,at8.same.seq q,z.mono at8.same⟩)) B.len) ax))) (aca hd cd)) fun v9 H9 s9 e9=>?_
    have e9:v9=.bl (Vamati.mayEnd r i):=e9
    subst e9
    have at9:=at8.later s9
    refine aaW (d:=Vamati.mayEnd r i) (fun H10=>lQ C p dx a (pcL r (i+1)) H0 H10) (bn (ab (R:=cB) 8 rfl (K:=K) rfl)) (fun he H10 s10=>?_) (fun he H10 s10=>?_) (fun H10 at10=>?_)
    ·have at10:=at9.later s10
     have b1:∀ j,(nF r i j).length<=1003:=fun j=>by
      have b0:∀ j,(pcL r i j).length<=1000:=fun j=>Nat.le_trans (yM r i j) (by omega)
      unfold nF
      split
      ·exact cN (cN (cN b0)) j
      ·exact Nat.le_trans (b0 j) (by omega)
     refine cw (P:=cI K i) (at10.fld 1 c.cl c.last (ay (K:=K) 0)) (ab (R:=cI) 5 rfl rfl) (at10.lst 1 (by decide)) (a9 (by rw [List.length_map];have:=b1 1;omega)) fun v11 H11 s11 e11=>?_
     have e11:v11=.int i:=e11
     subst e11
     have at11:=at10.app (n:=i) st s11 (m:=1) (by decide)
     refine cw (P:=cI K d.cost) (at11.fld 2 c.cl c.costs (ay (K:=K) 0)) (j8 3 cr.cl cr.cost (ab 6 rfl (rd' at11.same))) (at11.lst 2 (by decide)) (a9 (by rw [List.length_map];have:=cN (m:=1) (n:=(i:Int)) b1 2;omega)) fun v12 H12 s12 e12=>?_
     have e12:v12=.int d.cost:=e12
     subst e12
     have at12:=at11.app (n:=d.cost) st s12 (m:=2) (by decide)
     refine cw (P:=cI K (Bp.aw r i+d.width)) (at12.fld 4 c.cl c.rights (ay (K:=K) 0)) (ab (R:=cI) 7 rfl rfl) (at12.lst 4 (by decide)) (a9 (by rw [List.length_map];have:=cN (m:=2) (n:=d.cost) (cN (m:=1) (n:=(i:Int)) b1) 4;omega)) fun v13 H13 s13 e13=>?_
     have e13:v13=.int (Bp.aw r i+d.width):=e13
     subst e13
     have at13:=at12.app (n:=Bp.aw r i+d.width) st s13 (m:=4) (by decide)
     refine cw (P:=cI K (Bp.aw r i+d.width - Bp.ash r i)) (at13.fld 6 c.cl c.trights (ay (K:=K) 0)) (bG (ab (R:=cI) 7 rfl rfl) (ab (R:=cI) 3 rfl rfl)) (at13.lst 6 (by decide)) (a9 (by rw [List.length_map];have:=cN (m:=4) (n:=Bp.aw r i+d.width) (cN (m:=2) (n:=d.cost) (cN (m:=1) (n:=(i:Int)) b1)) 6;omega)) fun v14 H14 s14 e14=>?_
     have e14:v14=.int (Bp.aw r i+d.width - Bp.ash r i):=e14
     subst e14
     have at14:=at13.app (n:=Bp.aw r i+d.width - Bp.ash r i) st s14 (m:=6) (by decide)
     have eL:fx (fx (fx (fx (nF r i) 1 i) 2 d.cost) 4 (Bp.aw r i+d.width)) 6 (Bp.aw r i+d.width - Bp.ash r i)=pcL r (i+1):=by
      rw [vX,if_pos he,Bp.qt hd,Bp.lj hd]
     rw [eL] at at14
     exact bj ⟨rfl,at14⟩
    ·have at10:=at9.later s10
     have eL:nF r i=pcL r (i+1):=by rw [vX,if_neg (by rw [he];simp)]
     rw [eL] at at10
     exact at10
    ·refine aF (i:=4) (P:=cB K (Vamati.mayEnd r i)) nd rfl (Or.inl rfl) (ab 8 rfl rfl) fun v11 H11 s11 e11=>?_
     have e11:v11=.bl (Vamati.mayEnd r i):=e11
     subst e11
     refine aF (i:=2) (P:=cI K (Bp.aw r i+d.width+d.space)) nd rfl (Or.inl rfl) (aY (ab (R:=cI) 7 rfl rfl) (j8 1 cr.cl cr.space (ab 6 rfl (rd' (at10.same.trans s11))))) fun v12 H12 s12 e12=>?_
     have e12:v12=.int (Bp.aw r i+d.width+d.space):=e12
     subst e12
     refine xx (i:=3) (K:=K) nd rfl (Or.inl rfl) aat rfl (j8 2 cr.cl cr.shrink (ab 6 rfl (rd' (at10.same.trans (s11.trans s12))))) fun H13 s13=>?_
     refine bj ⟨hi',at10.later (s11.trans (s12.trans s13)),some (.int i),some u,some (.int (Bp.aw r i+d.width)),some (.bl (Vamati.mayEnd r i)),?_⟩
     have w1:=Bp.bZ (fun a=>a.width+a.space) r i d hd
     have w2:=Bp.bZ (fun a=>a.shrink) r i d hd
     have x1:Bp.aw r (i+1)=Bp.aw r i+d.width+d.space:=by unfold Bp.aw;rw [w1];omega
     have x2:Bp.ash r (i+1)=Bp.ash r i+d.shrink:=by unfold Bp.ash;rw [w2]
     rw [x1,x2]
     rfl
  ·rintro σ' H' ⟨_,at',_⟩
   rw [z.length] at at'
   exact bj (k H' at')
structure Mk7 (H:Hp)(x C dx:Addr)(fl:List (Str×V))(as:List Addr)(H':Hp):Prop where
 ob:Ob H x C dx fl H'
 nd:as.Nodup
 lst:∀ b∈as,H' b=some (.lst [])/\H b=none
theorem gc {X:Cx}{σ:L2.St}{H H':Hp}{pos p pl pos':Pos}{D:Ends}{rest:List Stmt}{x C dx:Addr}{fl:List (Str×V)}{as:List Addr}{f:Str}(c:Cls X.K C)(n:aA X.K C f)(ns:List Str)(M:Mk7 H x C dx fl as H')
  (k:∀ q H1,Mk7 H x C dx (fl++[(f,.ref q)]) (as++[q]) H1->SX X D rest σ H1)(hf:f ∉ ns)(hns:fl.map (·.1)=ns:=by rfl)(hl:ns.length < 1000:=by decide)(hx:σ[0]?=some (some (.ref x)):=by rfl)
  (hN:X.N[0]?=some ("self":Str):=by rfl)(hv':Vis X.env.scope "self":=by first | exact Or.inl rfl | exact Or.inr (Or.inl rfl) | exact Or.inr (Or.inr rfl))
  (hs:swapsWith (.List [] pl) (some (.Attribute (.Name "self" p) f pos')) pos.line X.env=pure false:=by rfl):SX X D (.Assign [.Attribute (.Name "self" p) f pos'] (.List [] pl) pos::rest) σ H':=by
 refine ka (P:=cF H' cI X.K []) c n (bu (R:=cI) aJ (Nat.zero_le _)) (ab (R:=cV) (K:=X.K) 0 hx rfl hN hv') M.ob.obj (by rw [<-hns,List.length_map] at hl;exact hl) (fun v H1 s1 e1=>?_) hs
 obtain ⟨q,xs,rfl,hq,hq1,hz⟩:=e1
 have e0:xs=[]:=by cases hz;rfl
 subst e0
 rw [gm hns hf]
 have hqx:q≠x:=fun z=>by rw [z,M.ob.obj] at hq;cases hq
 have hb:∀ b∈as,b≠x:=fun b hb z=>by have h1:=(M.lst b hb).1;rw [z,M.ob.obj] at h1;cases h1
 refine k q _ ⟨(M.ob.later s1).put,sS M.nd (fun z=>by have h1:=(M.lst q z).1;rw [hq] at h1;cases h1),fun b hb'=>?_⟩
 rcases List.mem_append.mp hb' with z | z
 ·exact ⟨by rw [am (hb b z)];exact s1 _ _ (M.lst b z).1,(M.lst b z).2⟩
 ·have z:=List.mem_singleton.mp z
  subst z
  refine ⟨by rw [am hqx];exact hq1,?_⟩
  cases e:H b with
  | none=>rfl
  | some o=>
   rw [M.ob.kp b o e hqx] at hq
   cases hq
theorem ab2 {X:Cx}{σ:L2.St}{H:Hp}{o e:Expr}{pos apos cpos:Pos}{D:Ends}{rest:List Stmt}{C p dx:Addr}{fl:List (Str×V)}{m:Str}{k:Nat}{sp:Sp}{u:V}{pl:Sem Bool}(M:az X.prog X.w X.K X.mg X.base C m k sp)(c:Cls X.K C)(hr:Room k X.A)(ho:PX X σ H o (cV K (.ref p)))(he:PX X σ H e (cV K u))
  (hH:H p=some (.ins C dx fl))(hm:fl.lookup m=none)(h:∀ H1,Same H H1->sp [.ref p,u] H1 (fun _ H2=>SX X D rest σ H2) E0)
  (hst:starEach [e] X.env=(false,eval e X.env)::starEach [] X.env:=by rfl)
  (ht:eval (.Call (.Attribute o m apos) [e] [] cpos) X.env=(do
   let ov <-eval o X.env
   standAt apos.atName
   let (f,first) <-holding [ov] (getMethod ov m pl)
   callWith cpos f first (backTo cpos (starEach [e] X.env)) (backToKw cpos (keywordEach [] X.env))):=by rfl) (hsw:swapsWith (.Call (.Attribute o m apos) [e] [] cpos) none pos.line X.env=pure false:=by rfl):
  SX X D (.Expr (.Call (.Attribute o m apos) [e] [] cpos) pos::rest) σ H:=by
 obtain ⟨f,fd,ps,hM,hb,F⟩:=M.ex
 refine bh (kK (fL (pl:=pl) (E:=E0) (dvs:=[]) ah c hM F hr hb .nil pass0 (aq ah be hst) hst rfl ht) hsw) (ho.now fun v H1 s1 e1=>?_)
 have e1:v=.ref p:=e1
 refine ⟨p,dx,fl,e1,s1 _ _ hH,hm,he H1 s1 _ fun w H2 s2 e2=>?_⟩
 have e2:w=u:=e2
 rw [e1,e2]
 exact h H2 (s1.trans s2)
def cPc (C:Addr):Rp Vamati.Row:=fun _ r v H=>∃ p dx a,v=.ref p/\H p=some (.ins C dx (pcF a))/\∀ j,j < 7->H (a j)=some (.lst ((pcL r r.length j).map V.int))
instance {C:Addr}:Mono (cPc C):=⟨fun s ⟨p,dx,a,e,h1,h2⟩=>⟨p,dx,a,e,s _ _ h1,fun j hj=>s _ _ (h2 j hj)⟩⟩
theorem abP {CR C x dx:Addr}{r:Vamati.Row}{v:V}{H:Hp}(h:cL (cRI CR) K r v H)(hx:H x=some (.ins C dx [])):cL (cRI CR) K r v (fun b=>if b=x then none else H b):=by
 obtain ⟨l,xs,e,q,z⟩:=h
 refine ⟨l,xs,e,?_,Paired.mapP z fun _ _ ⟨p,dp,e1,e2⟩=>⟨p,dp,e1,?_⟩⟩
 ·rcases q with (q | ⟨o,q⟩) | q
  ·refine .inl (.inl ?_)
   show (if l=x then none else H l)=_
   rw [if_neg (b9 q hx (by intro z;cases z))]
   exact q
  ·refine .inl (.inr ⟨o,?_⟩)
   show (if l=x then none else H l)=_
   rw [if_neg (b9 q hx (by intro z;cases z))]
   exact q
  ·exact .inr q
 ·show (if p=x then none else H p)=_
  rw [if_neg (b9 e2 hx (by intro z;injection z with _ _ z;cases z))]
  exact e2
theorem zk {C CR:Addr}(F:gr K mg "Pieces" C "Pieces.__init__" fk ["self","row"])(c:oi K C)(g1:az P w K mg base C "gather" 1 (spG K C CR)):gz P w K mg base "Pieces" C 2 (spI K C (aC (cL (cRI CR)) aN) (fun d=>d.1.length<=1000/\∀ a∈d.1,-1<=a.cost) (fun d x H=>cPc C K d.1 (.ref x) H)):=by
 refine F.cal re (fun vs H Q E h=>?_) (fun f cdv A outer s H vs Q E hr h=>?_)
 ·obtain ⟨x,dx,d,ws,rfl,_,⟨v1,_,rfl,_,rfl⟩,_⟩:=h
  rfl
 ·obtain ⟨x,dx,⟨r,u⟩,ws,rfl,hx,⟨v1,_,rfl,h1,rfl⟩,hp,k⟩:=h
  have M0:Mk7 H x C dx [] [] H:=⟨Ob.start hx,List.nodup_nil,fun b hb=>by cases hb⟩
  refine gc c.cl c.first [] M0 (fun p0 H1 M1=>?_) (by simp)
  refine gc c.cl c.last ["first_items"] M1 (fun p1 H2 M2=>?_) (by decide +kernel)
  refine gc c.cl c.costs ["first_items","last_items"] M2 (fun p2 H3 M3=>?_) (by decide +kernel)
  refine gc c.cl c.lefts ["first_items","last_items","costs"] M3 (fun p3 H4 M4=>?_) (by decide +kernel)
  refine gc c.cl c.rights ["first_items","last_items","costs","lefts"] M4 (fun p4 H5 M5=>?_) (by decide +kernel)
  refine gc c.cl c.tlefts ["first_items","last_items","costs","lefts","rights"] M5 (fun p5 H6 M6=>?_) (by decide +kernel)
  refine gc c.cl c.trights ["first_items","last_items","costs","lefts","rights","tight_lefts"] M6 (fun p6 H7 M7=>?_) (by decide +kernel)
  refine ab2 (K:=K) (p:=x) (u:=v1) g1 c.cl hr (ay 0) (ay 1) M7.ob.obj (lkn (ns:=pcN) rfl (by decide +kernel)) fun H8 s8=>?_
  refine ⟨x,dx,fun j=>[p0,p1,p2,p3,p4,p5,p6].getD j 0,r,v1,fun b=>if b=x then none else H b,rfl,⟨if_pos rfl,fun j hj=>?_,fun i j hi hj e=>?_⟩,⟨fun b o e=>?_,s8 _ _ M7.ob.obj,fun j hj=>?_⟩,abP h1 hx,hp.1,hp.2,fun H' at'=>?_⟩
  ·have hm:[p0,p1,p2,p3,p4,p5,p6].getD j 0∈[p0,p1,p2,p3,p4,p5,p6]:=by
    rw [List.getD_eq_getElem?_getD,List.getElem?_eq_getElem (by simpa using hj)]
    exact List.getElem_mem _
   have h2:=(M7.lst _ hm).2
   show (if _ then none else _)=_
   split
   ·rfl
   ·exact h2
  ·have nd:[p0,p1,p2,p3,p4,p5,p6].Nodup:=M7.nd
   have e1:[p0,p1,p2,p3,p4,p5,p6][i]?=some ([p0,p1,p2,p3,p4,p5,p6].getD i 0):=by rw [List.getD_eq_getElem?_getD,List.getElem?_eq_getElem (by simpa using hi)];rfl
   have e2:[p0,p1,p2,p3,p4,p5,p6][j]?=some ([p0,p1,p2,p3,p4,p5,p6].getD j 0):=by rw [List.getD_eq_getElem?_getD,List.getElem?_eq_getElem (by simpa using hj)];rfl
   exact adt nd e1 (by rw [e2];exact congrArg some e.symm)
  ·have e:(if b=x then none else H b)=some o:=e
   by_cases hb:b=x
   ·rw [if_pos hb] at e
    cases e
   ·rw [if_neg hb] at e
    exact s8 _ _ (M7.ob.kp b o e hb)
  ·have hm:[p0,p1,p2,p3,p4,p5,p6].getD j 0∈[p0,p1,p2,p3,p4,p5,p6]:=by
    rw [List.getD_eq_getElem?_getD,List.getElem?_eq_getElem (by simpa using hj)]
    exact List.getElem_mem _
   exact s8 _ _ (M7.lst _ hm).1
  ·refine bj (k H' ⟨x,dx,_,rfl,at'.obj,at'.lst⟩ fun b o e hb=>at'.same b o ?_)
   show (if b=x then none else H b)=some o
   rw [if_neg hb]
   exact e
end
section
variable {P:Program}{w:World}{K:PySem.W.Frag}{mg:Str->Option Value}{base:Heap}
theorem gI {X:Cx}{σ:L2.St}{H0:Hp}{e:Expr}{pos:Pos}{C:Addr}{r:Vamati.Row}{f:Str}(j:Nat)(c:Cls X.K C)(n:aA X.K C f)(he:PX X σ H0 e (cPc C K r))(hj:j < 7)(hf:∀ a,(pcF a)[j]?=some (f,.ref (a j)):=by intro _;rfl)(hb:attributeBase e f X.env (eval e X.env)=eval e X.env:=by rfl):
  PX X σ H0 (.Attribute e f pos) (cM cI K (pcL r r.length j)):=
 kd c n (fun H1 s1 Q k=>he H1 s1 Q fun v H2 s2 ⟨p,dx,a,e1,e2,e3⟩=>k v H2 s2 ⟨p,dx,pcF a,.ref (a j),e1,e2,aar a (hf a),⟨a j,_,rfl,e3 j hj,All.of_ints _⟩⟩) hb
theorem PX.mQ {X:Cx}{σ:L2.St}{H0:Hp}{e:Expr}{α:Type}{R:Rp α}{as:List α}(h:PX X σ H0 e (cM R K as)):PX X σ H0 e (cQ R K as):=h.imp fun _ _ _ q=>q.toQ
theorem pz (r:Vamati.Row):esN r r.length=Bp.esL r:=rfl
theorem wT (r:Vamati.Row):bsN r r.length=Bp.bsL r:=rfl
theorem pcR {r:Vamati.Row}(hr:r≠[]){e:Nat}(he:e<=Bp.ak r):(pcL r r.length 4)[e]?=some ((Bp.pcs r).R e):=by
 show ((esN r r.length).map _)[e]?=_
 rw [pz,List.getElem?_map,Bp.gW ((Bp.aO hr).mp he)]
 rfl
theorem afI {r:Vamati.Row}(hr:r≠[]){e:Nat}(he:e<=Bp.ak r):(pcL r r.length 6)[e]?=some ((Bp.pcs r).TR e):=by
 show ((esN r r.length).map _)[e]?=_
 rw [pz,List.getElem?_map,Bp.gW ((Bp.aO hr).mp he)]
 rfl
theorem pcC {r:Vamati.Row}(hr:r≠[]){e:Nat}(he:e<=Bp.ak r):(pcL r r.length 2)[e]?=some ((Bp.pcs r).C e):=by
 show ((esN r r.length).map _)[e]?=_
 rw [pz,List.getElem?_map,Bp.gW ((Bp.aO hr).mp he)]
 rfl
theorem pcE {r:Vamati.Row}(hr:r≠[]){e:Nat}(he:e<=Bp.ak r):(pcL r r.length 1)[e]?=some ((Bp.pe r e:Nat):Int):=by
 show ((esN r r.length).map _)[e]?=_
 rw [pz,List.getElem?_map,Bp.gW ((Bp.aO hr).mp he)]
 rfl
theorem afQ {r:Vamati.Row}(hr:r≠[]){s:Nat}(hs:s<=Bp.ak r):(pcL r r.length 3)[s]?=some ((Bp.pcs r).L s):=by
 show ((bsN r r.length).map _)[s]?=_
 rw [wT,List.getElem?_map,Bp.xc hr ((Bp.aO hr).mp hs)]
 rfl
theorem afV {r:Vamati.Row}(hr:r≠[]){s:Nat}(hs:s<=Bp.ak r):(pcL r r.length 5)[s]?=some ((Bp.pcs r).TL s):=by
 show ((bsN r r.length).map _)[s]?=_
 rw [wT,List.getElem?_map,Bp.xc hr ((Bp.aO hr).mp hs)]
 rfl
theorem afO {r:Vamati.Row}(hr:r≠[]){s:Nat}(hs:s<=Bp.ak r):(pcL r r.length 0)[s]?=some ((Bp.fs r s:Nat):Int):=by
 show ((bsN r r.length).map _)[s]?=_
 rw [wT,List.getElem?_map,Bp.xc hr ((Bp.aO hr).mp hs)]
 rfl
theorem cPc.meth {C:Addr}{r:Vamati.Row}{m:Str}(h:m ∉ pcN):∀ v H,cPc C K r v H->∃ p dx fl,v=.ref p/\H p=some (.ins C dx fl)/\fl.lookup m=none:=by
 rintro v H ⟨p,dx,a,e1,e2,_⟩
 exact ⟨p,dx,pcF a,e1,e2,lkn (ns:=pcN) rfl h⟩
theorem len5 {α β γ δ ε ζ:Type}{R:Rp α}{R2:Rp β}{R3:Rp γ}{R4:Rp δ}{R5:Rp ε}{pre:α×β×γ×δ×ε×Unit->Prop}{S:Rp ζ}{f:α×β×γ×δ×ε×Unit->ζ}:∀ vs H Q E,spF K (aC R (aC R2 (aC R3 (aC R4 (aC R5 aN))))) pre S f vs H Q E->vs.length=5:=by
 rintro vs H Q E ⟨d,⟨v,_,rfl,_,w,_,rfl,_,x,_,rfl,_,y,_,rfl,_,z,_,rfl,_,rfl⟩,_⟩
 rfl
abbrev tz (K:PySem.W.Frag)(C:Addr):Sp:=spF K (aC (cPc C) aN) (fun d=>d.1≠[]) aU (fun d=>Bp.ak d.1)
theorem rB {C:Addr}(F:aT K C "last_piece" "Pieces.last_piece" cn ["self"])(c:oi K C)(B:Blt mg):az P w K mg base C "last_piece" 1 (tz K C):=by
 refine F.cal jI len1 (fun f cdv A outer s H vs Q E hr h=>?_)
 obtain ⟨⟨r,u⟩,⟨v,_,rfl,h1,rfl⟩,hp,k⟩:=h
 have hp:r≠[]:=hp
 refine ai (P:=cI K _) (bG (dc (K:=K) (R:=cI) (PX.mQ (gI 2 c.cl c.costs (ab 0 rfl h1) (by decide))) B.len) ax) (fun v H2 s2 e=>k v H2 s2 ?_)
 have e:v=.int (((pcL r r.length 2).length:Int) - 1):=e
 show v=.int (Bp.ak r:Int)
 rw [e]
 congr 1
 show (((esN r r.length).map _).length:Int) - 1=_
 rw [pz,List.length_map]
 have:=Bp.cR r hp
 unfold Bp.ak
 omega
abbrev aPc (C:Addr):Ra (Vamati.Row×Nat×Nat×Int×Unit):=aC (cPc C) (aC aU (aC aU (aC cI aN)))
abbrev oC (K:PySem.W.Frag)(C:Addr):Sp:=spF K (aPc C) (fun d=>d.1≠[]/\d.2.1<=Bp.ak d.1/\d.2.2.1<=Bp.ak d.1) cI (fun d=>Bp.slk (Bp.pcs d.1) d.2.2.2.1 d.2.1 d.2.2.1)
theorem u4 {C:Addr}(F:aT K C "slack_of" "Pieces.slack_of" c9 ["self","start","end","room"])(c:oi K C):az P w K mg base C "slack_of" 1 (oC K C):=by
 refine F.cal kQ len4 (fun f cdv A outer s H vs Q E hr h=>?_)
 obtain ⟨⟨r,a,b,m,u⟩,⟨v,_,rfl,h1,v2,_,rfl,h2,v3,_,rfl,h3,v4,_,rfl,h4,rfl⟩,hp,k⟩:=h
 obtain ⟨p1,p2,p3⟩:r≠[]/\a<=Bp.ak r/\b<=Bp.ak r:=hp
 have h2:cI K (a:Int) v2 H:=h2
 have h3:cI K (b:Int) v3 H:=h3
 exact ai (P:=cI K (Bp.slk (Bp.pcs r) m a b)) (bG (ab (R:=cI) 3 rfl h4) (bG (aI (K:=K) (R:=cI) (PX.mQ (gI 4 c.cl c.rights (ab 0 rfl h1) (by decide))) (ab (R:=cI) 2 rfl h3) (al rfl (pcR p1 p3))) (aI (K:=K) (R:=cI) (PX.mQ (gI 3 c.cl c.lefts (ab 0 rfl h1) (by decide))) (ab (R:=cI) 1 rfl h2) (al rfl (afQ p1 p2))))) (fun v H2 s2 e=>k v H2 s2 e)
abbrev ul (K:PySem.W.Frag)(C:Addr):Sp:=spF K (aPc C) (fun d=>d.1≠[]/\d.2.1<=Bp.ak d.1/\d.2.2.1<=Bp.ak d.1) cI (fun d=>Bp.ovf (Bp.pcs d.1) d.2.2.2.1 d.2.1 d.2.2.1)
theorem qH {C:Addr}(F:aT K C "overfull_of" "Pieces.overfull_of" bS ["self","start","end","room"])(c:oi K C)(B:Blt mg):az P w K mg base C "overfull_of" 1 (ul K C):=by
 refine F.cal jf len4 (fun f cdv A outer s H vs Q E hr h=>?_)
 obtain ⟨⟨r,a,b,m,u⟩,⟨v,_,rfl,h1,v2,_,rfl,h2,v3,_,rfl,h3,v4,_,rfl,h4,rfl⟩,hp,k⟩:=h
 obtain ⟨p1,p2,p3⟩:r≠[]/\a<=Bp.ak r/\b<=Bp.ak r:=hp
 have h2:cI K (a:Int) v2 H:=h2
 have h3:cI K (b:Int) v3 H:=h3
 exact ai (P:=cI K (Bp.ovf (Bp.pcs r) m a b)) (oF rfl ax (bG (bG (aI (K:=K) (R:=cI) (PX.mQ (gI 6 c.cl c.trights (ab 0 rfl h1) (by decide))) (ab (R:=cI) 2 rfl h3) (al rfl (afI p1 p3))) (aI (K:=K) (R:=cI) (PX.mQ (gI 5 c.cl c.tlefts (ab 0 rfl h1) (by decide))) (ab (R:=cI) 1 rfl h2) (al rfl (afV p1 p2)))) (ab (R:=cI) 3 rfl h4)) B.max lP) (fun v H2 s2 e=>k v H2 s2 e)
def In64 (x:Int):Prop:=-(2 ^ 64) < x/\x < 2 ^ 64
abbrev xL (K:PySem.W.Frag)(C:Addr):Sp:=spF K (aC (cPc C) (aC aU (aC cI aN))) (fun d=>d.1≠[]/\d.2.1<=Bp.ak d.1/\In64 d.2.2.1) cI (fun d=>Bp.cst (Bp.pcs d.1) d.2.1 d.2.2.1)
theorem xB {C:Addr}(F:aT K C "cost_of" "Pieces.cost_of" dm ["self","end","slack"])(c:oi K C)(g1:az P w K mg base C "last_piece" 1 (tz K C)):az P w K mg base C "cost_of" 2 (xL K C):=by
 refine F.cal mM len3 (fun f cdv A outer s H vs Q E hr h=>?_)
 obtain ⟨⟨r,b,x,u⟩,⟨v,_,rfl,h1,v2,_,rfl,h2,v3,_,rfl,h3,rfl⟩,hp,k⟩:=h
 obtain ⟨p1,p2,p3⟩:r≠[]/\b<=Bp.ak r/\In64 x:=hp
 have h2:cI K (b:Int) v2 H:=h2
 have h3:cI K x v3 H:=h3
 have kk:∀ (z:Int) v H',Same H H'->z=Bp.cst (Bp.pcs r) b x->cI K z v H'->Q v H':=fun z v H' s e h=>k v H' s (by rw [e] at h;exact h)
 refine aH (d:=decide ((b:Int) < (Bp.ak r:Int))) (xJ (ab (R:=cI) 1 rfl h2) (hX (U:=cI) c.cl (az.mk g1.ex) hr (ab 0 rfl h1) (cPc.meth (by decide +kernel)) p1)) (fun hd H' s'=>?_) (fun hd H' s'=>?_)
 ·have hd:b < (Bp.pcs r).n:=by have:=of_decide_eq_true hd;show b < Bp.ak r;omega
  refine ai (P:=cI K _) (aY (iK (.inl p3) (ab (R:=cI) 2 rfl h3) (ab (R:=cI) 2 rfl h3)) (aI (K:=K) (R:=cI) (PX.mQ (gI 2 c.cl c.costs (ab 0 rfl (Mono.mono s' h1)) (by decide))) (ab (R:=cI) 1 rfl h2) (al rfl (pcC p1 p2)))) (fun v H2 s2 e=>kk _ v H2 (s'.trans s2) ?_ e)
  unfold Bp.cst
  rw [if_pos hd]
 ·have hd:¬ b < (Bp.pcs r).n:=by have:=of_decide_eq_false hd;show ¬ b < Bp.ak r;omega
  refine ai (P:=cI K (Bp.cst (Bp.pcs r) b x)) (k4 (d:=decide (x < 0)) (xJ (ab (R:=cI) 2 rfl h3) (ax (K:=K))) (fun hx=>PX.cast (iK (.inl p3) (ab (R:=cI) 2 rfl h3) (ab (R:=cI) 2 rfl h3)) ?_) (fun hx=>PX.cast ax ?_)) (fun v H2 s2 e=>kk _ v H2 (s'.trans s2) rfl e)
  ·unfold Bp.cst
   rw [if_neg hd,if_pos (of_decide_eq_true hx)]
  ·unfold Bp.cst
   rw [if_neg hd,if_neg (of_decide_eq_false hx)]
structure SOk (r:Vamati.Row)(s e:Nat)(room:Int):Prop where
 ne:r≠[]
 bd:Bp.Bound r
 s:s<=Bp.ak r
 e:e<=Bp.ak r
 lo:-1000000000<=room
 hi:room<=1000000000
theorem SOk.in64 {r:Vamati.Row}{s e:Nat}{room:Int}(o:SOk r s e room):In64 (Bp.slk (Bp.pcs r) room s e):=by
 have:=Bp.zG o.ne o.bd o.lo o.hi o.s o.e
 unfold In64
 omega
abbrev vQ (K:PySem.W.Frag)(C CS:Addr):Sp:=spF K (aPc C) (fun d=>SOk d.1 d.2.1 d.2.2.1 d.2.2.2.1) (cSp CS) (fun d=>Bp.pN d.1 d.2.2.2.1 d.2.1 d.2.2.1)
theorem acv {C CS:Addr}(F:aT K C "span" "Pieces.span" eW ["self","start","end","room"])(c:oi K C)(g1:az P w K mg base C "slack_of" 1 (oC K C))(g2:az P w K mg base C "overfull_of" 1 (ul K C))(g3:az P w K mg base C "cost_of" 2 (xL K C))(g4:gz P w K mg base "Span" CS 1 (aaF K CS)):az P w K mg base C "span" 3 (vQ K C CS):=by
 refine F.cal gT len4 (fun f cdv A outer s H vs Q E hr h=>?_)
 obtain ⟨⟨r,a,b,m,u⟩,⟨v,_,rfl,h1,v2,_,rfl,h2,v3,_,rfl,h3,v4,_,rfl,h4,rfl⟩,hp,k⟩:=h
 have hp:SOk r a b m:=hp
 have h2:aU K a v2 H:=h2
 have h3:aU K b v3 H:=h3
 have h4:cI K m v4 H:=h4
 refine aF (i:=4) (P:=cI K (Bp.slk (Bp.pcs r) m a b)) gT.nd rfl (Or.inl rfl) (bM c.cl g1 (hr.mono (by decide)) (ab 0 rfl h1) (cPc.meth (by decide +kernel)) (ad (R:=aU) (d:=a) (ab 1 rfl h2) (ad (R:=aU) (d:=b) (ab 2 rfl h3) (ad (R:=cI) (d:=m) (ab 3 rfl h4) ag))) ⟨hp.ne,hp.s,hp.e⟩) fun v5 H5 s5 e5=>?_
 refine aF (i:=5) (P:=cI K (Bp.ovf (Bp.pcs r) m a b)) gT.nd rfl (Or.inl rfl) (bM c.cl g2 (hr.mono (by decide)) (ab 0 rfl (Mono.mono s5 h1)) (cPc.meth (by decide +kernel)) (ad (R:=aU) (d:=a) (ab 1 rfl h2) (ad (R:=aU) (d:=b) (ab 2 rfl h3) (ad (R:=cI) (d:=m) (ab 3 rfl h4) ag))) ⟨hp.ne,hp.s,hp.e⟩) fun v6 H6 s6 e6=>?_
 have q6:cPc C K r v H6:=Mono.mono (s5.trans s6) h1
 refine ai (P:=cSp CS K (Bp.pN r m a b)) (jk (d:=(((Bp.fs r a:Nat):Int),((Bp.pe r b:Nat):Int),Bp.slk (Bp.pcs r) m a b,Bp.ovf (Bp.pcs r) m a b,Bp.cst (Bp.pcs r) b (Bp.slk (Bp.pcs r) m a b),())) g4 (hr.mono (by decide)) ?_ trivial (fun y H _ ⟨dx,e⟩=>⟨y,dx,rfl,e⟩)) (fun v H2 s2 e=>k v H2 (s5.trans (s6.trans s2)) e)
 refine ad (R:=cI) (aI (K:=K) (R:=cI) (PX.mQ (gI 0 c.cl c.first (ab 0 rfl q6) (by decide))) (ab (R:=cI) 1 rfl h2) (al rfl (afO hp.ne hp.s))) (ad (R:=cI) (aI (K:=K) (R:=cI) (PX.mQ (gI 1 c.cl c.last (ab 0 rfl q6) (by decide))) (ab (R:=cI) 2 rfl h3) (al rfl (pcE hp.ne hp.e))) (ad (R:=cI) (ab 4 rfl e5) (ad (R:=cI) (ab 5 rfl e6) (ad (R:=cI) ?_ ag))))
 exact bM c.cl g3 (hr.mono (by decide)) (ab 0 rfl q6) (cPc.meth (by decide +kernel)) (ad (R:=aU) (d:=b) (ab 2 rfl h3) (ad (R:=cI) (ab 4 rfl e5) ag)) ⟨hp.ne,hp.e,hp.in64⟩
def wl (x:Bp.Wy):List Int:=[x.o,x.c,x.k,x.e]
def cW:Rp Bp.Wy:=fun K x v H=>cT cI K (wl x) v H
instance:Mono cW:=⟨fun s h=>(Mono.mono s h:cT cI _ (wl _) _ _)⟩
instance:Frz cW:=⟨fun s h=>(Frz.frz s h:cT cI _ (wl _) _ _)⟩
abbrev adw (K:PySem.W.Frag)(C:Addr):Sp:=spF K (aC (cPc C) (aC aU (aC aU (aC cI (aC cW aN))))) (fun d=>SOk d.1 d.2.1 d.2.2.1 d.2.2.2.1) cW (fun d=>Bp.gv (Bp.pcs d.1) d.2.2.2.1 d.2.1 d.2.2.1 d.2.2.2.2.1)
theorem wg {C:Addr}(F:aW K mg "way_with" iL ["pieces","start","end","room","rest"])(c:oi K C)(N:Nums mg)(g1:az P w K mg base C "slack_of" 1 (oC K C))(g2:az P w K mg base C "overfull_of" 1 (ul K C))(g3:az P w K mg base C "cost_of" 2 (xL K C)):Cal P w K mg base "way_with" 3 (adw K C):=by
 refine F.cal qI len5 (fun f cdv A outer s H vs Q E hr h=>?_)
 obtain ⟨⟨r,a,b,m,x,u⟩,⟨v,_,rfl,h1,v2,_,rfl,h2,v3,_,rfl,h3,v4,_,rfl,h4,v5,_,rfl,h5,rfl⟩,hp,k⟩:=h
 have hp:SOk r a b m:=hp
 have h2:aU K a v2 H:=h2
 have h3:aU K b v3 H:=h3
 have h4:cI K m v4 H:=h4
 have h5:cT cI K (wl x) v5 H:=h5
 refine aF (i:=5) (P:=cI K (Bp.slk (Bp.pcs r) m a b)) qI.nd rfl (Or.inl rfl) (bM c.cl g1 (hr.mono (by decide)) (ab 0 rfl h1) (cPc.meth (by decide +kernel)) (ad (R:=aU) (d:=a) (ab 1 rfl h2) (ad (R:=aU) (d:=b) (ab 2 rfl h3) (ad (R:=cI) (d:=m) (ab 3 rfl h4) ag))) ⟨hp.ne,hp.s,hp.e⟩) fun v6 H6 s6 e6=>?_
 have q6:cPc C K r v H6:=Mono.mono s6 h1
 have q5:cT cI K (wl x) v5 H6:=Mono.mono s6 h5
 refine ai (P:=cT cI K (wl (Bp.gv (Bp.pcs r) m a b x))) (aas (ao (aY (bM c.cl g2 (hr.mono (by decide)) (ab 0 rfl q6) (cPc.meth (by decide +kernel)) (ad (R:=aU) (d:=a) (ab 1 rfl h2) (ad (R:=aU) (d:=b) (ab 2 rfl h3) (ad (R:=cI) (d:=m) (ab 3 rfl h4) ag))) ⟨hp.ne,hp.s,hp.e⟩) (aI (K:=K) (R:=cI) (PX.toQT (ab 4 rfl q5)) (aD N.overfullPlace) (al (j:=0) rfl rfl)))
  (ao (aY (bM c.cl g3 hr (ab 0 rfl q6) (cPc.meth (by decide +kernel)) (ad (R:=aU) (d:=b) (ab 2 rfl h3) (ad (R:=cI) (ab 5 rfl e6) ag)) ⟨hp.ne,hp.e,hp.in64⟩) (aI (K:=K) (R:=cI) (PX.toQT (ab 4 rfl q5)) (aD N.costPlace) (al (j:=1) rfl rfl)))
  (ao (aY ax (aI (K:=K) (R:=cI) (PX.toQT (ab 4 rfl q5)) (aD N.countPlace) (al (j:=2) rfl rfl))) (ao (ab (R:=cI) 2 rfl h3) aJ)))) (by show 4<=sizeLine;decide)) (fun v H2 s2 e=>k v H2 (s6.trans s2) e)
theorem yj (b:Bp.Wy)(x y:Int):HT.lexLt (wl b) [x,y,2]=decide (Bp.Wy.lt3 b x y 2):=by
 unfold wl
 rw [HT.lexLt_cons,HT.lexLt_cons,HT.lexLt_cons,HT.lexLt_cons_nil]
 rw [Bool.eq_iff_iff,decide_eq_true_iff]
 unfold Bp.Wy.lt3
 split
 ·split
  ·split
   ·simp;omega
   ·simp;omega
  ·simp;omega
 ·simp;omega
theorem adT (a b:Bp.Wy):HT.lexLt (wl a) (wl b)=decide (Bp.Wy.lt a b):=by
 unfold wl
 rw [HT.lexLt_cons,HT.lexLt_cons,HT.lexLt_cons,HT.lexLt_cons,HT.lexLt_nil_nil]
 rw [Bool.eq_iff_iff,decide_eq_true_iff]
 unfold Bp.Wy.lt
 split
 ·split
  ·split
   ·split
    ·simp;omega
    ·simp;omega
   ·simp;omega
  ·simp;omega
 ·simp;omega
theorem aaQ (a b:Bp.Wy):(if HT.lexLt (wl b) (wl a)=true then wl b else wl a)=wl (Bp.wmin a b):=by
 rw [adT]
 unfold Bp.wmin
 by_cases h:Bp.Wy.lt b a
 ·rw [if_pos (decide_eq_true h),if_pos h]
 ·rw [if_neg (by simpa using h),if_neg h]
structure BOk (r:Vamati.Row)(s far:Nat)(room:Int)(ws:List Bp.Wy):Prop where
 ne:r≠[]
 bd:Bp.Bound r
 s:s<=far
 e:far<=Bp.ak r
 lo:-1000000000<=room
 hi:room<=1000000000
 len:ws.length=Bp.ak r+2
def wsT (ws:List Bp.Wy)(k:Nat):Bp.Wy:=ws.getD k Bp.nil4
theorem uh {ws:List Bp.Wy}{k:Nat}(h:k < ws.length):ws[k]?=some (wsT ws k):=by
 unfold wsT
 rw [List.getD_eq_getElem?_getD,List.getElem?_eq_getElem h]
 rfl
abbrev aaT (K:PySem.W.Frag)(C:Addr):Sp:=spF K (aC (cPc C) (aC aU (aC aU (aC cI (aC (cL cW) aN))))) (fun d=>BOk d.1 d.2.1 d.2.2.1 d.2.2.2.1 d.2.2.2.2.1) cW (fun d=>Bp.dB (Bp.pcs d.1) d.2.2.2.1 (wsT d.2.2.2.2.1) d.2.1 d.2.2.1)
theorem PX.wq {X:Cx}{σ:L2.St}{H0:Hp}{e:Expr}{x:Bp.Wy}(h:PX X σ H0 e (cW K x)):PX X σ H0 e (cQ cI K (wl x)):=h.imp fun _ _ _ q=>.inr q
theorem wv {C:Addr}(F:aW K mg "best_way" ir ["pieces","start","farthest","room","ways"])(c:oi K C)(N:Nums mg)(B:Blt mg)(g1:az P w K mg base C "slack_of" 1 (oC K C))(g2:az P w K mg base C "overfull_of" 1 (ul K C))(g3:Cal P w K mg base "way_with" 3 (adw K C)):Cal P w K mg base "best_way" 4 (aaT K C):=by
 refine F.cal qd len5 (fun f cdv A outer s H vs Q E hr h=>?_)
 obtain ⟨⟨r,a,far,m,ws,u⟩,⟨v,_,rfl,h1,v2,_,rfl,h2,v3,_,rfl,h3,v4,_,rfl,h4,v5,_,rfl,h5,rfl⟩,hp,k⟩:=h
 have hp:BOk r a far m ws:=hp
 have nd:=qd.nd
 have h2:aU K a v2 H:=h2
 have h3:aU K far v3 H:=h3
 have h4:cI K m v4 H:=h4
 have h5:cL cW K ws v5 H:=h5
 have hl:=hp.len
 have hs:=hp.s
 have he:=hp.e
 have sok:∀ e,e<=far->SOk r a e m:=fun e h=>⟨hp.ne,hp.bd,by omega,by omega,hp.lo,hp.hi⟩
 refine aF (i:=5) (P:=cI K (Bp.ovf (Bp.pcs r) m a a)) nd rfl (Or.inl rfl) (bM c.cl g2 (hr.mono (by decide)) (ab 0 rfl h1) (cPc.meth (by decide +kernel)) (ad (R:=aU) (d:=a) (ab 1 rfl h2) (ad (R:=aU) (d:=a) (ab 1 rfl h2) (ad (R:=cI) (d:=m) (ab 3 rfl h4) ag))) ⟨hp.ne,(sok a hs).s,(sok a hs).s⟩) fun v6 H6 s6 e6=>?_
 have e6:v6=.int (Bp.ovf (Bp.pcs r) m a a):=e6
 subst e6
 refine aF (i:=6) (P:=cW K (Bp.gv (Bp.pcs r) m a far (wsT ws (far+1)))) nd rfl (Or.inl rfl) (aQ g3 hr (ad (R:=cPc C) (d:=r) (ab 0 rfl (Mono.mono s6 h1)) (ad (R:=aU) (d:=a) (ab 1 rfl h2) (ad (R:=aU) (d:=far) (ab 2 rfl h3) (ad (R:=cI) (d:=m) (ab 3 rfl h4) (ad (R:=cW) (d:=wsT ws (far+1)) ?_ ag))))) (sok far (Nat.le_refl _))) fun v7 H7 s7 e7=>?_
 ·exact aI (K:=K) (R:=cW) (PX.toQ (ab 4 rfl (Mono.mono s6 h5))) (aY (ab (R:=cI) 2 rfl h3) ax) (al (j:=far+1) (by omega) (uh (by omega)))
 have s67:=s6.trans s7
 refine x8 (K:=K) (v:=7) (i:=(far:Int) - 1) (j:=(a:Int) - 1) PassesOwn.never rfl (bG (ab (R:=cI) 2 rfl h3) ax) (bG (ab (R:=cI) 1 rfl h2) ax) (wM ax) ?_ (bg (i:=7) nd rfl (Or.inl rfl)) (fun H8 s8=>?_) B.range
 ·have:=Bp.eM ((Bp.aO hp.ne).mp (Nat.le_refl (Bp.ak r)))
  have hb:=hp.bd.len
  have hq:Bp.ak r < r.length:=by
   have h9:(Bp.esL r).length<=r.length:=uJ r r.length
   have:=Bp.cR r hp.ne
   unfold Bp.ak
   omega
  omega
 have cnt:((far:Int) - 1 - ((a:Int) - 1)).toNat=far - a:=by omega
 rw [cnt]
 refine ⟨fun t σ' H'=>t<=far - a/\Same H H'/\∃ b vb o7 o8 o9,σ'=[some v,some v2,some v3,some v4,some v5,some (.int (Bp.ovf (Bp.pcs r) m a a)),some vb,o7,o8,o9]/\cW K b vb H'/\Bp.scan (Bp.pcs r) m (wsT ws) a (far - a - t) b=Bp.dB (Bp.pcs r) m (wsT ws) a far,?_,?_,?_⟩
 ·exact ⟨Nat.zero_le _,s67.trans s8,_,v7,none,none,none,rfl,Mono.mono s8 e7,rfl⟩
 ·rintro t σ' H' ht ⟨_,s9,b,vb,o7,o8,o9,rfl,hb,hsc⟩
  obtain ⟨e,ee⟩:∃ e,e=far - 1 - t:=⟨_,rfl⟩
  have e1:(far:Int) - 1 - (t:Nat)=(e:Int):=by omega
  rw [e1]
  have hef:e<=far:=by omega
  have hae:a<=e:=by omega
  have ek:far - a - t=(e - a)+1:=by omega
  have eka:a+(e - a)=e:=by omega
  have h1':cPc C K r v H':=Mono.mono s9 h1
  have h5':cL cW K ws v5 H':=Mono.mono s9 h5
  refine aF (i:=8) (P:=cW K (wsT ws (e+1))) nd rfl (Or.inl rfl) (aI (K:=K) (R:=cW) (PX.toQ (ab 4 rfl h5')) (aY (ab (R:=cI) 7 rfl rfl) ax) (al (j:=e+1) (by omega) (uh (by omega)))) fun v10 H10 s10 e10=>?_
  refine aF (i:=9) (P:=cI K (max 0 (Bp.slk (Bp.pcs r) m a e))) nd rfl (Or.inl rfl) (oF rfl ax (bM c.cl g1 (hr.mono (by decide)) (ab 0 rfl (Mono.mono s10 h1')) (cPc.meth (by decide +kernel)) (ad (R:=aU) (d:=a) (ab 1 rfl h2) (ad (R:=aU) (d:=e) (ab 7 rfl rfl) (ad (R:=cI) (d:=m) (ab 3 rfl h4) ag))) ⟨hp.ne,(sok e hef).s,(sok e hef).e⟩) B.max lP) fun v11 H11 s11 e11=>?_
  have e11:v11=.int (max 0 (Bp.slk (Bp.pcs r) m a e)):=e11
  subst e11
  have i64:In64 (max 0 (Bp.slk (Bp.pcs r) m a e)):=by
   have:=(sok e hef).in64
   unfold In64 at *
   omega
  have s12:=s10.trans s11
  have hb11:cW K b vb H11:=Mono.mono s12 hb
  have h10:cW K (wsT ws (e+1)) v10 H11:=Mono.mono s11 e10
  refine aH (acV (K:=K) (Nat.lt_of_succ_lt (adI hr)) (aas (ds:=[Bp.ovf (Bp.pcs r) m a a+(wsT ws (e+1)).o,max 0 (Bp.slk (Bp.pcs r) m a e) * max 0 (Bp.slk (Bp.pcs r) m a e),2]) (ao (aY (ab (R:=cI) 5 rfl rfl) (aI (K:=K) (R:=cI) (PX.wq (ab 8 rfl h10)) (aD N.overfullPlace) (al (j:=0) rfl rfl))) (ao (iK (.inl i64) (ab (R:=cI) 9 rfl rfl) (ab (R:=cI) 9 rfl rfl)) (ao ax aJ))) (by show 3<=sizeLine;decide)) (ab (R:=cT cI) (d:=wl b) 6 rfl hb11)) (fun hd H13 s13=>?_) (fun hd H13 s13=>?_)
  ·rw [yj] at hd
   refine ab9 ?_
   refine ai (P:=cW K b) (ab 6 rfl (Mono.mono s13 hb11)) (fun v H14 s14 e14=>k v H14 (s9.trans (s12.trans (s13.trans s14))) ?_)
   rw [ek] at hsc
   unfold Bp.scan at hsc
   rw [eka,if_pos (of_decide_eq_true hd)] at hsc
   show cW K (Bp.dB (Bp.pcs r) m (wsT ws) a far) v H14
   rw [<-hsc]
   exact e14
  ·rw [yj] at hd
   rw [ek] at hsc
   unfold Bp.scan at hsc
   rw [eka,if_neg (of_decide_eq_false hd)] at hsc
   have h1'':cPc C K r v H13:=Mono.mono (s12.trans s13) h1'
   have hb13:cW K b vb H13:=Mono.mono s13 hb11
   have h13:cW K (wsT ws (e+1)) v10 H13:=Mono.mono s13 h10
   refine aH (d:=decide (Bp.ovf (Bp.pcs r) m a e+(wsT ws (e+1)).o<=b.o)) (aaq (aY (bM c.cl g2 (hr.mono (by decide)) (ab 0 rfl h1'') (cPc.meth (by decide +kernel)) (ad (R:=aU) (d:=a) (ab 1 rfl h2) (ad (R:=aU) (d:=e) (ab 7 rfl rfl) (ad (R:=cI) (d:=m) (ab 3 rfl h4) ag))) ⟨hp.ne,(sok e hef).s,(sok e hef).e⟩) (aI (K:=K) (R:=cI) (PX.wq (ab 8 rfl h13)) (aD N.overfullPlace) (al (j:=0) rfl rfl))) (aI (K:=K) (R:=cI) (PX.wq (ab 6 rfl hb13)) (aD N.overfullPlace) (al (j:=0) rfl rfl))) (fun hd2 H14 s14=>?_) (fun hd2 H14 s14=>?_)
   ·rw [if_pos (of_decide_eq_true hd2)] at hsc
    refine aF (i:=6) (P:=cT cI K (wl (Bp.wmin b (Bp.gv (Bp.pcs r) m a e (wsT ws (e+1)))))) nd rfl (Or.inl rfl) (PX.cast (acf (K:=K) rfl (adI hr) (ab (R:=cT cI) (d:=wl b) 6 rfl (Mono.mono s14 hb13)) (aQ (U:=cT cI) (y:=wl (Bp.gv (Bp.pcs r) m a e (wsT ws (e+1)))) (Cal.mk g3.ex) hr (ad (R:=cPc C) (d:=r) (ab 0 rfl (Mono.mono s14 h1'')) (ad (R:=aU) (d:=a) (ab 1 rfl h2) (ad (R:=aU) (d:=e) (ab 7 rfl rfl) (ad (R:=cI) (d:=m) (ab 3 rfl h4) (ad (R:=cW) (d:=wsT ws (e+1)) (ab 8 rfl (Mono.mono s14 h13)) ag))))) (sok e hef)) B.min adP) (aaQ _ _)) fun v15 H15 s15 e15=>?_
    refine bj (bj ⟨by omega,s9.trans (s12.trans (s13.trans (s14.trans s15))),_,v15,some (.int e),some v10,some (.int (max 0 (Bp.slk (Bp.pcs r) m a e))),rfl,e15,?_⟩)
    rw [show far - a - (t+1)=e - a by omega]
    exact hsc
   ·rw [if_neg (of_decide_eq_false hd2)] at hsc
    refine bj ⟨by omega,s9.trans (s12.trans (s13.trans s14)),b,vb,some (.int e),some v10,some (.int (max 0 (Bp.slk (Bp.pcs r) m a e))),rfl,Mono.mono s14 hb13,?_⟩
    rw [show far - a - (t+1)=e - a by omega]
    exact hsc
 ·rintro σ' H' ⟨_,s9,b,vb,o7,o8,o9,rfl,hb,hsc⟩
  rw [Nat.sub_self] at hsc
  have hsc:b=Bp.dB (Bp.pcs r) m (wsT ws) a far:=hsc
  subst hsc
  exact ai (P:=cW K _) (ab 6 rfl hb) (fun v H14 s14 e14=>k v H14 (s9.trans s14) e14)
end
end Bq
namespace Bp
theorem kg {P:Pcs}{room:Int}{T T':Nat->Wy}{s:Nat}:∀ (k:Nat) (b:Wy),(∀ j,s < j->j<=s+k->T j=T' j)->scan P room T s k b=scan P room T' s k b
 | 0,b,_=>rfl
 | k+1,b,h=>by
  unfold scan
  rw [h (s+k+1) (by omega) (by omega),kg k _ fun j h1 h2=>h j h1 (by omega),kg k _ fun j h1 h2=>h j h1 (by omega)]
theorem jX {P:Pcs}{room:Int}{T T':Nat->Wy}{s far:Nat}(hs:s<=far)(h:∀ j,s < j->j<=far+1->T j=T' j):dB P room T s far=dB P room T' s far:=by
 unfold dB
 rw [h (far+1) (by omega) (Nat.le_refl _)]
 exact kg _ _ fun j h1 h2=>h j h1 (by omega)
theorem Good.up {P:Pcs}{room:Int}{T:Nat->Wy}{lo lo':Nat}(g:Good P room T lo)(h:lo<=lo'):Good P room T lo':=⟨g.fin,fun s h1 h2=>g.best s (by omega) h2⟩
def wu (r:Vamati.Row)(m:Vamati.Measure)(s:Nat):Nat:=if s=ak r then ak r else i6 r m (s+1)
theorem aem {r:Vamati.Row}(hr:r≠[])(f:Fine r)(m:Vamati.Measure){s:Nat}(h1:1<=s)(h2:s<=ak r):s<=wu r m s/\wu r m s<=ak r/\dB (pcs r) (m.measure - m.indent) (wyT r m) s (wu r m s)=wyT r m s:=by
 have ok:=aaN hr f
 have g:=yt hr m
 unfold wu
 by_cases e:s=ak r
 ·rw [if_pos e]
  exact ⟨by omega,Nat.le_refl _,(iC (far:=ak r) ok (g.up (show 1<=s+1 by omega)) (by omega) (Nat.le_refl _)).unique (g.best s h1 h2)⟩
 ·rw [if_neg e]
  obtain ⟨p1,p2,p3,_⟩:=iB hr m (s:=s+1) (by omega)
  refine ⟨by omega,p2,?_⟩
  have b:=iC (room0:=m.measure - m.indent) ok (g.up (show 1<=s+1 by omega)) (s:=s) (far:=i6 r m (s+1)) (by omega) p2
  exact (b.all ok (g.best (s+1) (by omega) (by show s+1<=ak r;omega)) p3 (by show s+1<=ak r;omega) p1 p2).unique (g.best s h1 h2)
theorem aaR {r:Vamati.Row}(hr:r≠[])(f:Fine r)(m:Vamati.Measure):dB (pcs r) (m.measure - m.first) (wyT r m) 0 (ak r)=wyT r m 0:=
 (iC (aaN hr f) (yt hr m) (Nat.zero_le _) (Nat.le_refl _)).unique (abi hr m)
end Bp
namespace Bq
open PySem PySem.Spec PyProof.Rows L2
def cFr:Rp Vamati.Measure:=fun _ m v _=>v=.int (m.measure - m.first)
def cRm:Rp Vamati.Measure:=fun _ m v _=>v=.int (m.measure - m.indent)
instance:Mono cFr:=⟨fun _ h=>h⟩
instance:Mono cRm:=⟨fun _ h=>h⟩
structure MOk (m:Vamati.Measure):Prop where
 f1:-1000000000<=m.measure - m.first
 f2:m.measure - m.first<=1000000000
 r1:-1000000000<=m.measure - m.indent
 r2:m.measure - m.indent<=1000000000
def ni (r:Vamati.Row)(m:Vamati.Measure):List Bp.Wy:=(List.range (Bp.ak r+2)).map (Bp.wyT r m)
def dE (r:Vamati.Row)(m:Vamati.Measure)(s:Nat):List Bp.Wy:=(List.range (Bp.ak r+2)).map fun k=>if s < k then Bp.wyT r m k else Bp.nil4
theorem mU {r:Vamati.Row}{m:Vamati.Measure}{s k:Nat}(h:k < Bp.ak r+2)(hs:s < k):wsT (dE r m s) k=Bp.wyT r m k:=by
 unfold wsT dE
 rw [List.getD_eq_getElem?_getD,List.getElem?_map,List.getElem?_range h]
 show (if s < k then _ else _)=_
 rw [if_pos hs]
theorem yV {r:Vamati.Row}{m:Vamati.Measure}{s:Nat}(h:s+1 < Bp.ak r+2):(dE r m (s+1)).set (s+1) (Bp.wyT r m (s+1))=dE r m s:=by
 unfold dE
 apply List.ext_getElem
 ·simp
 ·intro k h1 h2
  rw [List.getElem_set]
  simp only [List.getElem_map,List.getElem_range]
  by_cases e:s+1=k
  ·subst e
   rw [if_pos rfl,if_pos (by omega)]
  ·rw [if_neg e]
   by_cases q:s+1 < k
   ·rw [if_pos q,if_pos (by omega)]
   ·rw [if_neg q,if_neg (by omega)]
theorem vI {r:Vamati.Row}{m:Vamati.Measure}:(dE r m 0).set 0 (Bp.wyT r m 0)=ni r m:=by
 unfold dE ni
 apply List.ext_getElem
 ·simp
 ·intro k h1 h2
  rw [List.getElem_set]
  simp only [List.getElem_map,List.getElem_range]
  by_cases e:0=k
  ·subst e
   rw [if_pos rfl]
  ·rw [if_neg e,if_pos (by omega)]
theorem vH {r:Vamati.Row}(hr:r≠[]){m:Vamati.Measure}:(List.replicate (Bp.ak r+2) [Bp.nil4]).flatten=dE r m (Bp.ak r):=by
 have e:∀ n:Nat,(List.replicate n [Bp.nil4]).flatten=List.replicate n Bp.nil4:=by
  intro n
  induction n with
  | zero=>rfl
  | succ n ih=>
   rw [List.replicate_succ,List.flatten_cons,ih,List.replicate_succ]
   rfl
 rw [e]
 unfold dE
 apply List.ext_getElem
 ·simp
 ·intro k h1 h2
  simp only [List.getElem_replicate,List.getElem_map,List.getElem_range]
  have hk:k < Bp.ak r+2:=by simpa using h1
  by_cases q:Bp.ak r < k
  ·rw [if_pos q,show k=Bp.ak r+1 by omega,Bp.aaw hr]
  ·rw [if_neg q]
theorem ia (r:Vamati.Row)(m:Vamati.Measure)(s:Nat):(dE r m s).length=Bp.ak r+2:=by unfold dE;simp
theorem m6 {r:Vamati.Row}(hr:r≠[])(b:Bp.Bound r):Bp.ak r < 1000:=by
 have h9:(Bp.esL r).length<=r.length:=uJ r r.length
 have:=Bp.cR r hr
 have:=b.len
 unfold Bp.ak
 omega
section
variable {P:Program}{w:World}{K:PySem.W.Frag}{mg:Str->Option Value}{base:Heap}
theorem aaj {n j:Nat}{i:Int}(e:i=(j:Int))(h:j < n):ixN n i=some j:=by
 rw [e]
 unfold ixN
 simp
 omega
theorem All.set' {α:Type}{R:Rp α}{H:Hp}{xs:List V}{as:List α}(h:All R K H xs as){j:Nat}{v:V}{d:α}(r:R K d v H):All R K H (xs.set j v) (as.set j d):=by
 unfold All at h ⊢
 induction h generalizing j with
 | nil=>exact .nil
 | cons q t ih=>
  cases j with
  | zero=>exact .cons r t
  | succ j=>exact .cons q ih
abbrev ab7 (K:PySem.W.Frag)(C:Addr):Sp:=spF K (aC (cPc C) (aC cFr (aC cRm aN))) (fun d=>d.1≠[]/\Bp.Bound d.1/\d.2.2.1=d.2.1/\MOk d.2.1) (cL cW) (fun d=>ni d.1 d.2.1)
theorem uc {C:Addr}(F:aW K mg "best_ways" gL ["pieces","first_room","room"])(c:oi K C)(N:Nums mg)(B:Blt mg)(T:Tups K mg)(g1:az P w K mg base C "last_piece" 1 (tz K C))(g2:Cal P w K mg base "best_way" 4 (aaT K C)):Cal P w K mg base "best_ways" 5 (ab7 K C):=by
 refine F.cal nu len3 (fun f cdv A outer s H vs Q E hr h=>?_)
 obtain ⟨⟨r,m,m',u⟩,⟨v,_,rfl,h1,v2,_,rfl,h2,v3,_,rfl,h3,rfl⟩,hp,k⟩:=h
 obtain ⟨hne,hbd,hm,mok⟩:r≠[]/\Bp.Bound r/\m'=m/\MOk m:=hp
 subst hm
 have nd:=nu.nd
 have h2:v2=.int (m'.measure - m'.first):=h2
 have h3:v3=.int (m'.measure - m'.indent):=h3
 subst h2 h3
 have hn:=m6 hne hbd
 refine aF (i:=3) (P:=aU K (Bp.ak r)) nd rfl (Or.inl rfl) (hX c.cl g1 (hr.mono (by decide)) (ab 0 rfl h1) (cPc.meth (by decide +kernel)) hne) fun v4 H4 s4 e4=>?_
 have e4:v4=.int (Bp.ak r:Int):=e4
 subst e4
 obtain ⟨an,hmn,hcn⟩:=T.nothing
 refine aF (i:=4) (P:=cF H4 cW K (dE r m' (Bp.ak r))) nd rfl (Or.inl rfl) (PX.cast (R:=cF H4 cW) (aei (R:=cW) (as:=[Bp.nil4]) (n:=(Bp.ak r:Int)+2) (PX.toM (bu (ao (R:=cW) (d:=Bp.nil4) (k3 (v:=.ref an) hmn rfl hcn) aJ) (by show 1<=sizeLine;decide))) (aY (ab (R:=cI) 3 rfl rfl) ax) (by omega) (by omega) ?_) ?_) fun v5 H5 s5 e5=>?_
 ·show 1 * ((Bp.ak r:Int)+2).toNat<=sizeLine
  exact Nat.le_of_lt (a9 (by omega))
 ·rw [show ((Bp.ak r:Int)+2).toNat=Bp.ak r+2 by omega]
  exact vH hne
 obtain ⟨q,xs,rfl,hq0,hq,hz⟩:=e5
 have hqH:H q=none:=s4.free hq0
 refine aF (i:=5) (P:=cI K (Bp.ak r:Int)) nd rfl (Or.inl rfl) (ab 3 rfl rfl) fun v6 H6 s6 e6=>?_
 have e6:v6=.int (Bp.ak r:Int):=e6
 subst e6
 have s46:=s4.trans (s5.trans s6)
 refine x8 (K:=K) (v:=6) (i:=(Bp.ak r:Int)) (j:=0) PassesOwn.never rfl (ab (R:=cI) 3 rfl rfl) ax (wM ax) (by omega) (bg (i:=6) nd rfl (Or.inl rfl)) (fun H7 s7=>?_) B.range
 rw [show ((Bp.ak r:Int) - 0).toNat=Bp.ak r by omega]
 refine ⟨fun t σ' H'=>t<=Bp.ak r/\Same H H'/\∃ xs o6,σ'=[some v,some (.int (m'.measure - m'.first)),some (.int (m'.measure - m'.indent)),some (.int (Bp.ak r:Int)),some (.ref q),some (.int (if t=0 then (Bp.ak r:Int) else (Bp.wyT r m' (Bp.ak r - t+1)).e)),o6]/\H' q=some (.lst xs)/\All cW K H' xs (dE r m' (Bp.ak r - t)),?_,?_,?_⟩
 ·exact ⟨Nat.zero_le _,s46.trans s7,xs,none,rfl,s7 _ _ (s6 _ _ hq),hz.mono (s6.trans s7)⟩
 ·rintro t σ' H' ht ⟨_,s9,xs,o6,rfl,hqt,hzt⟩
  obtain ⟨sp,hsp⟩:∃ sp,Bp.ak r - t=sp+1:=⟨Bp.ak r - t - 1,by omega⟩
  have e1:(Bp.ak r:Int) - (t:Nat)=((sp+1:Nat):Int):=by omega
  rw [e1]
  rw [hsp] at hzt
  obtain ⟨f1,f2,f3⟩:=Bp.aem hne hbd.fine m' (s:=sp+1) (by omega) (by omega)
  have efar:(if t=0 then (Bp.ak r:Int) else (Bp.wyT r m' (Bp.ak r - t+1)).e)=((Bp.wu r m' (sp+1):Nat):Int):=by
   unfold Bp.wu
   by_cases z:t=0
   ·rw [if_pos z,if_pos (by omega)]
   ·rw [if_neg z,if_neg (by omega),hsp]
    exact (Bp.iB hne m' (s:=sp+1+1) (by omega)).2.2.1
  rw [efar]
  have hzt':cL cW K (dE r m' (sp+1)) (.ref q) H':=⟨q,xs,rfl,SqL.of hqt,hzt⟩
  have hl:=hzt.length
  rw [ia] at hl
  refine u9 (K:=K) (P:=cW K (Bp.wyT r m' (sp+1))) (pa:=q) (xs:=xs) (i:=((sp+1:Nat):Int)) (j:=sp+1) (aQ g2 hr (ad (R:=cPc C) (d:=r) (ab 0 rfl (Mono.mono s9 h1)) (ad (R:=aU) (d:=sp+1) (ab 6 rfl rfl) (ad (R:=aU) (d:=Bp.wu r m' (sp+1)) (ab 5 rfl rfl) (ad (R:=cI) (d:=m'.measure - m'.indent) (ab 2 rfl rfl) (ad (R:=cL cW) (d:=dE r m' (sp+1)) (ab 4 rfl hzt') ag))))) ⟨hne,hbd,f1,f2,mok.r1,mok.r2,ia r m' (sp+1)⟩ ?_) (ab (R:=cV) (K:=K) 4 rfl rfl) (ab (R:=cI) 6 rfl rfl) hqt (aaj rfl (by omega)) fun v10 H10 s10 e10=>?_
  ·show Bp.dB (Bp.pcs r) (m'.measure - m'.indent) (wsT (dE r m' (sp+1))) (sp+1) (Bp.wu r m' (sp+1))=Bp.wyT r m' (sp+1)
   rw [Bp.jX (T':=Bp.wyT r m') f1 fun j h1 h2=>mU (by omega) h1]
   exact f3
  have h10:H10 q=some (.lst xs):=s10 _ _ hqt
  have e10':cW K (Bp.wyT r m' (sp+1)) v10 (upd H10 q (.lst (xs.set (sp+1) v10))):=Frz.frz h10 e10
  have hz10:All cW K (upd H10 q (.lst (xs.set (sp+1) v10))) (xs.set (sp+1) v10) (dE r m' sp):=by
   rw [<-yV (by omega)]
   exact ((hzt.mono s10).put h10).set' e10'
  have hz10':cL cW K (dE r m' sp) (.ref q) (upd H10 q (.lst (xs.set (sp+1) v10))):=⟨q,_,rfl,SqL.of aj,hz10⟩
  have gw:(dE r m' sp)[sp+1]?=some (Bp.wyT r m' (sp+1)):=by
   rw [uh (by rw [ia];omega),mU (by omega) (by omega)]
  refine aF (i:=5) (P:=cI K (Bp.wyT r m' (sp+1)).e) nd rfl (Or.inl rfl) (aI (K:=K) (R:=cI) (as:=wl (Bp.wyT r m' (sp+1))) (PX.wq (aI (K:=K) (R:=cW) (PX.toQ (ab 4 rfl hz10')) (ab (R:=cI) 6 rfl rfl) (al (j:=sp+1) rfl gw))) (aD N.endPlace) (al (j:=3) rfl rfl)) fun v11 H11 s11 e11=>?_
  have e11:v11=.int (Bp.wyT r m' (sp+1)).e:=e11
  subst e11
  refine bj ⟨by omega,(bK (s9.trans s10) hqH).trans s11,_,some (.int ((sp+1:Nat):Int)),?_,s11 _ _ aj,?_⟩
  ·rw [if_neg (by omega),show Bp.ak r - (t+1)+1=sp+1 by omega]
   rfl
  ·rw [show Bp.ak r - (t+1)=sp by omega]
   exact hz10.mono s11
 ·rintro σ' H' ⟨_,s9,xs,o6,rfl,hqt,hzt⟩
  rw [Nat.sub_self] at hzt
  have hzt':cL cW K (dE r m' 0) (.ref q) H':=⟨q,xs,rfl,SqL.of hqt,hzt⟩
  have hl:=hzt.length
  rw [ia] at hl
  refine u9 (K:=K) (P:=cW K (Bp.wyT r m' 0)) (pa:=q) (xs:=xs) (i:=0) (j:=0) (aQ g2 hr (ad (R:=cPc C) (d:=r) (ab 0 rfl (Mono.mono s9 h1)) (ad (R:=aU) (d:=0) (ax (K:=K)) (ad (R:=aU) (d:=Bp.ak r) (ab 3 rfl rfl) (ad (R:=cI) (d:=m'.measure - m'.first) (ab 1 rfl rfl) (ad (R:=cL cW) (d:=dE r m' 0) (ab 4 rfl hzt') ag))))) ⟨hne,hbd,Nat.zero_le _,Nat.le_refl _,mok.f1,mok.f2,ia r m' 0⟩ ?_) (ab (R:=cV) (K:=K) 4 rfl rfl) ax hqt (aaj rfl (by omega)) fun v10 H10 s10 e10=>?_
  ·show Bp.dB (Bp.pcs r) (m'.measure - m'.first) (wsT (dE r m' 0)) 0 (Bp.ak r)=Bp.wyT r m' 0
   rw [Bp.jX (T':=Bp.wyT r m') (Nat.zero_le _) fun j h1 h2=>mU (by omega) h1]
   exact Bp.aaR hne hbd.fine m'
  have h10:H10 q=some (.lst xs):=s10 _ _ hqt
  have hz10:All cW K (upd H10 q (.lst (xs.set 0 v10))) (xs.set 0 v10) (ni r m'):=by
   rw [<-vI]
   exact ((hzt.mono s10).put h10).set' (Frz.frz h10 e10)
  exact ai (P:=cL cW K (ni r m')) (ab 4 rfl ⟨q,_,rfl,SqL.of aj,hz10⟩) (fun v H11 s11 e11=>k v H11 ((bK (s9.trans s10) hqH).trans s11) e11)
abbrev tJ (K:PySem.W.Frag)(CR CS:Addr):Sp:=spF K (aC (cL (cRI CR)) (aC cFr (aC cRm aN))) (fun d=>Bp.Bound d.1/\d.2.2.1=d.2.1/\MOk d.2.1) (cL (cSp CS)) (fun d=>Bp.bC d.1 d.2.1)
theorem mV {C CR CS:Addr}(F:aW K mg "best_breaking" dU ["row","first_room","room"])(c:oi K C)(N:Nums mg)(B:Blt mg)(g0:gz P w K mg base "Pieces" C 2 (spI K C (aC (cL (cRI CR)) aN) (fun d=>d.1.length<=1000/\∀ a∈d.1,-1<=a.cost) (fun d x H=>cPc C K d.1 (.ref x) H)))
  (g1:az P w K mg base C "last_piece" 1 (tz K C))(g2:Cal P w K mg base "best_ways" 5 (ab7 K C))(g3:az P w K mg base C "span" 3 (vQ K C CS)):Cal P w K mg base "best_breaking" 6 (tJ K CR CS):=by
 refine F.cal iR len3 (fun f cdv A outer s H vs Q E hr h=>?_)
 obtain ⟨⟨r,m,m',u⟩,⟨v,_,rfl,h1,v2,_,rfl,h2,v3,_,rfl,h3,rfl⟩,hp,k⟩:=h
 obtain ⟨hbd,hm,mok⟩:Bp.Bound r/\m'=m/\MOk m:=hp
 subst hm
 have nd:=iR.nd
 have h2:v2=.int (m'.measure - m'.first):=h2
 have h3:v3=.int (m'.measure - m'.indent):=h3
 subst h2 h3
 refine aH (d:=!!r.isEmpty) (bN (ach (K:=K) (R:=cRI CR) (ab 0 rfl h1))) (fun hd H' s'=>?_) (fun hd H' s'=>?_)
 ·have e:r=[]:=by simpa using hd
  subst e
  exact ai (P:=cL (cSp CS) K []) (PX.toL (bu (R:=cSp CS) aJ (Nat.zero_le _))) (fun v H2 s2 e=>k v H2 (s'.trans s2) e)
 ·have hne:r≠[]:=by simpa using hd
  have hn:=m6 hne hbd
  refine aF (i:=3) (P:=cPc C K r) nd rfl (Or.inl rfl) (jk (d:=(r,())) g0 (hr.mono (by decide)) (ad (R:=cL (cRI CR)) (ab 0 rfl (Mono.mono s' h1)) ag) ⟨hbd.len,fun a ha=>(hbd.fine.item a ha).2.2.2.2⟩ (fun y H _ e=>e)) fun v4 H4 s4 e4=>?_
  refine aF (i:=4) (P:=cL cW K (ni r m')) nd rfl (Or.inl rfl) (aQ g2 hr (ad (R:=cPc C) (d:=r) (ab 3 rfl e4) (ad (R:=cFr) (d:=m') (ab 1 rfl rfl) (ad (R:=cRm) (d:=m') (ab 2 rfl rfl) ag))) ⟨hne,hbd,rfl,mok⟩) fun v5 H5 s5 e5=>?_
  have gw:∀ {j:Nat},j < Bp.ak r+2->(ni r m')[j]?=some (Bp.wyT r m' j):=fun {j} hj=>by
   unfold ni
   rw [List.getElem?_map,List.getElem?_range hj]
   rfl
  obtain ⟨p1,p2,p3,p4⟩:=Bp.iB hne m' (s:=0) (Nat.zero_le _)
  refine aF (i:=5) (P:=cI K (Bp.wyT r m' 0).e) nd rfl (Or.inl rfl) (aI (K:=K) (R:=cI) (as:=wl (Bp.wyT r m' 0)) (PX.wq (aI (K:=K) (R:=cW) (PX.toQ (ab 4 rfl e5)) (ax (K:=K)) (al (j:=0) rfl (gw (by omega))))) (aD N.endPlace) (al (j:=3) rfl rfl)) fun v6 H6 s6 e6=>?_
  have e6:v6=.int (Bp.wyT r m' 0).e:=e6
  rw [p3] at e6
  subst e6
  have e4':cPc C K r v4 H6:=Mono.mono (s5.trans s6) e4
  refine aF (i:=6) (P:=cF H6 (cSp CS) K [Bp.pN r (Bp.sx m' 0) 0 (Bp.i6 r m' 0)]) nd rfl (Or.inl rfl) (bu (ao (R:=cSp CS) (bM c.cl g3 (hr.mono (by decide)) (ab 3 rfl e4') (cPc.meth (by decide +kernel)) (ad (R:=aU) (d:=0) (ax (K:=K)) (ad (R:=aU) (d:=Bp.i6 r m' 0) (ab 5 rfl rfl) (ad (R:=cI) (d:=m'.measure - m'.first) (ab 1 rfl rfl) ag))) ⟨hne,hbd,Nat.zero_le _,p2,mok.f1,mok.f2⟩) aJ) (by show 1<=sizeLine;decide)) fun v7 H7 s7 e7=>?_
  obtain ⟨q,xs,rfl,hq0,hq,hz⟩:=e7
  have s67:Same H H6:=s'.trans (s4.trans (s5.trans s6))
  have hqH:H q=none:=s67.free hq0
  refine wD (m:=Bp.ak r - Bp.i6 r m' 0) (W:=fun t σ' H'=>∃ e xs done o7,t=Bp.ak r - e/\e<=Bp.ak r/\Same H6 H'/\σ'=[some v,some (.int (m'.measure - m'.first)),some (.int (m'.measure - m'.indent)),some v4,some v5,some (.int ((e:Nat):Int)),some (.ref q),o7]/\H' q=some (.lst xs)/\All (cSp CS) K H' xs done/\done++Bp.bw r m' (Bp.fs r (e+1))=Bp.bC r m'/\done.length<=e+1) PassesOwn.never ⟨Bp.i6 r m' 0,xs,_,none,rfl,p2,s7,rfl,hq,hz,?_,by simp⟩ ?_
  ·rw [Bp.wY]
   have z:Bp.bw r m' 0=Bp.bw r m' (Bp.fs r 0):=rfl
   rw [z,p4]
   rfl
  ·rintro t σ' H' ⟨e,xs,done,o7,rfl,he,s8,rfl,hqt,hzt,hd8,hdl⟩
   have e48:cPc C K r v4 H':=Mono.mono s8 e4'
   refine ⟨decide ((e:Int) < (Bp.ak r:Int)),xJ (ab (R:=cI) 5 rfl rfl) (hX (U:=cI) c.cl (az.mk g1.ex) (hr.mono (by decide)) (ab 3 rfl e48) (cPc.meth (by decide +kernel)) hne),fun hlt H9 s9=>?_,fun hlt H9 s9=>?_⟩
   ·have hlt:e < Bp.ak r:=by have:=of_decide_eq_true hlt;omega
    obtain ⟨r1,r2,r3,r4⟩:=Bp.iB hne m' (s:=e+1) (by omega)
    refine ⟨fun σ2 H3=>∃ e2 xs done o7,e < e2/\e2<=Bp.ak r/\Same H6 H3/\σ2=[some v,some (.int (m'.measure - m'.first)),some (.int (m'.measure - m'.indent)),some v4,some v5,some (.int ((e2:Nat):Int)),some (.ref q),o7]/\H3 q=some (.lst xs)/\All (cSp CS) K H3 xs done/\done++Bp.bw r m' (Bp.fs r (e2+1))=Bp.bC r m'/\done.length<=e2+1,?_,?_⟩
    ·rintro σ2 H3 ⟨e2,xs,done,o7,g1,g2,g3,g4,g5,g6,g7,g8⟩
     exact ⟨Bp.ak r - e2,by omega,e2,xs,done,o7,rfl,g2,g3,g4,g5,g6,g7,g8⟩
    ·refine aF (i:=7) (P:=cI K ((e:Int)+1)) nd rfl (Or.inl rfl) (aY (ab (R:=cI) 5 rfl rfl) ax) fun v10 H10 s10 e10=>?_
     have e10:v10=.int ((e:Int)+1):=e10
     subst e10
     have s610:=s8.trans (s9.trans s10)
     refine aF (i:=5) (P:=cI K (Bp.wyT r m' (e+1)).e) nd rfl (Or.inl rfl) (aI (K:=K) (R:=cI) (as:=wl (Bp.wyT r m' (e+1))) (PX.wq (aI (K:=K) (R:=cW) (PX.toQ (ab 4 rfl (Mono.mono (s6.trans s610) e5))) (ab (R:=cI) 7 rfl rfl) (al (j:=e+1) (by omega) (gw (by omega))))) (aD N.endPlace) (al (j:=3) rfl rfl)) fun v11 H11 s11 e11=>?_
     have e11:v11=.int (Bp.wyT r m' (e+1)).e:=e11
     rw [r3] at e11
     subst e11
     have hq11:H11 q=some (.lst xs):=s11 _ _ (s10 _ _ (s9 _ _ hqt))
     refine cw (P:=cSp CS K (Bp.pN r (Bp.sx m' (e+1)) (e+1) (Bp.i6 r m' (e+1)))) (ab (R:=cV) (K:=K) 6 rfl rfl) (bM c.cl g3 (hr.mono (by decide)) (ab 3 rfl (Mono.mono (s610.trans s11) e4')) (cPc.meth (by decide +kernel)) (ad (R:=aU) (d:=e+1) (ab 7 rfl rfl) (ad (R:=aU) (d:=Bp.i6 r m' (e+1)) (ab 5 rfl rfl) (ad (R:=cI) (d:=m'.measure - m'.indent) (ab 2 rfl rfl) ag))) ⟨hne,hbd,(by omega:e+1<=Bp.ak r),r2,mok.r1,mok.r2⟩) hq11 (a9 (by rw [hzt.length];omega)) fun v12 H12 s12 e12=>?_
     have h12:H12 q=some (.lst xs):=s12 _ _ hq11
     refine bj ⟨Bp.i6 r m' (e+1),_,done++[Bp.pN r (Bp.sx m' (e+1)) (e+1) (Bp.i6 r m' (e+1))],some (.int ((e:Int)+1)),by omega,r2,bK (s610.trans (s11.trans s12)) hq0,rfl,aj,?_,?_,?_⟩
     ·exact ((hzt.mono (s9.trans (s10.trans (s11.trans s12)))).put h12).append (.cons (Frz.frz h12 e12) .nil)
     ·rw [<-hd8,r4,List.append_assoc]
      rfl
     ·rw [List.length_append]
      simp
      omega
   ·have hlt:¬ e < Bp.ak r:=by have:=of_decide_eq_false hlt;omega
    have ee:e=Bp.ak r:=by omega
    subst ee
    rw [Bp.abO hne,Bp.jV r m' _ (Nat.le_refl _),List.append_nil] at hd8
    subst hd8
    exact ai (P:=cL (cSp CS) K (Bp.bC r m')) (ab 6 rfl ⟨q,xs,rfl,SqL.of (s9 _ _ hqt),hzt.mono s9⟩) (fun v H11 s11 e11=>k v H11 (s67.trans (s8.trans (s9.trans s11))) e11)
end
def spJ {α:Type}(K:PySem.W.Frag)(C:Addr)(A:Ra α)(pre:α->Prop)(rel:α->Addr->Hp->Prop):Sp:=fun vs H Q _=>∃ x dx d ws Hb,vs=.ref x::ws/\H x=some (.ins C dx [])/\Same Hb H/\Hb x=none/\A K d ws Hb/\pre d/\∀ H',rel d x H'->Same Hb H'->Q .non H'
theorem Ob.base {H0 H Hb:Hp}{x C dx:Addr}{fl:List (Str×V)}(o:Ob H0 x C dx fl H)(s:Same Hb H0)(n:Hb x=none):Same Hb H:=fun b u e=>o.kp b u (s b u e) (aM e n)
section
variable {X:Cx}{σ:L2.St}{H0 H:Hp}{e:Expr}{es:List Expr}{pos p:Pos}{γ:Type}{K:PySem.W.Frag}{P:VK}
theorem tN {C:Addr}{x:Str}{k:Nat}{A:Ra γ}{pre:γ->Prop}{rel:γ->Addr->Hp->Prop}{d:γ}(M:gz X.prog X.w X.K X.mg X.base x C k (spJ K C A pre rel))(hr:Room (k+1) X.A)(ha:PAX X σ H0 (e::es) (A K d))(hp:pre d)
  (hP:∀ y H,H0 y=none->rel d y H->P (.ref y) H)(hg:Gl X x:=by rfl)(hdb:(x == ("__debug__":Str))=false:=by decide)(he:starEach (e::es) X.env=(false,eval e X.env)::starEach es X.env:=by rfl)(hpl:(backTo pos (starEach es X.env)).any (·.1)=false:=by rfl):
  PX X σ H0 (.Call (.Name x p) (e::es) [] pos) P:=by
 obtain ⟨f,fd,ps,hm,hM,hb,F⟩:=M.ex
 obtain ⟨t,h1,h2⟩:=ha
 refine bp (xZ (E:=E0) (dvs:=[]) hM F hr hg hm hb .nil pass0 h1 hdb he hpl) fun H s Q k=>h2 H s _ fun vs H1 s1 q y dy n1 n2 n3=>?_
 have s2:Same H1 (upd (upd H1 dy (.own y)) y (.ins C dy [])):=cD (a8 n2) (by rw [am (Ne.symm n3)];exact n1)
 show spJ K C A pre rel (.ref y::(vs++[])) _ _ E0
 rw [List.append_nil]
 exact ⟨y,dy,d,vs,H1,rfl,aj,s2,n1,q,hp,fun H' hr s3=>⟨rfl,k _ H' (s1.trans s3) (hP y H' ((s.trans s1).free n1) hr)⟩⟩
end
def cBk:Rp Vamatk.Block:=fun K b v H=>cT cI K (Vamatk.numbersOf b) v H
instance:Mono cBk:=⟨fun s h=>(Mono.mono s h:cT cI _ _ _ _)⟩
structure b8 (b:Vamatk.Block):Prop where
 told:Bp.Told (Vamatk.numbersOf b) b
 good:Vamatk.goodBlock b=true
 few:Vamatk.itemCount b<=600
theorem b8.of {st:Vamatk.State}(so:Bp.Sound st){b:Vamatk.Block}(hb:b∈st.blocks):b8 b:=by
 obtain ⟨g,e⟩:=so.blocks b hb
 refine ⟨Bp.kv e,g,?_⟩
 have h:=so.items
 obtain ⟨i,hi,hg⟩:=List.getElem_of_mem hb
 have:=Bp.cU st.blocks i _ (by rw [List.getElem?_eq_getElem hi,hg])
 omega
def qk (s:Vamatk.Settings):List Int:=[s.measure,s.indent,s.lead,s.gap,s.page,s.orphan]
def cSt:Rp Vamatk.Settings:=fun K s v H=>cT cI K (qk s) v H
instance:Mono cSt:=⟨fun s h=>(Mono.mono s h:cT cI _ _ _ _)⟩
inductive adZ (b:Vamatk.Block):Prop
 | para (f:Int) (row:Vamati.Row) (e:b=Bp.para b.before b.stretch b.shrink b.cost f row) (ne:row≠[]) (len:row.length<=600) (good:∀ a∈row,Vamati.good a=true) (fr:0<=f/\f<=100000000)
 | disp (y w h d:Int) (e:b=Bp.disp b.before b.stretch b.shrink b.cost y w h d) (wr:0<=w/\w<=1000000)
theorem b8.cases {b:Vamatk.Block}(o:b8 b):adZ b:=by
 have t:=o.told
 have g:=o.good
 have n:=o.few
 obtain ⟨b0,s0,u0,c0,body⟩:=b
 cases body with
 | paragraph f row=>
  obtain ⟨_,_,_,g4,g5⟩:=Bp.sr (b:=b0) (s:=s0) (u:=u0) (c:=c0) (f:=f) (row:=row) g
  refine .para f row rfl ?_ n g5 g4
  intro z
  subst z
  have e:=t.of
  have e:Vamatk.blockOf (b0::s0::u0::c0::0::f::[])=some _:=e
  rw [Bp.iG] at e
  cases e
 | display y w h d=>
  refine .disp y w h d rfl ?_
  unfold Vamatk.goodBlock Vamatk.goodBody Vamatk.within Vamatk.MOST at g
  simp only [Bool.and_eq_true,Bp.eN,decide_eq_true_iff] at g
  omega
theorem b8.long {b:Vamatk.Block}(o:b8 b):4 < (Vamatk.numbersOf b).length:=by
 have t:=o.told
 cases o.cases with
 | para f row e ne len good fr=>rw [e,Bp.aV];simp only [List.length_cons];omega
 | disp y w h d e=>rw [e,Bp.bc];simp
def uU (b:Vamatk.Block):Vamati.Row:=match b.body with
 | .paragraph _ row=>row
 | .display _ _ _ _=>[]
def uO (l:List Int):Vamati.Item:={width:=l.getD 0 0,height:=l.getD 1 0,depth:=l.getD 2 0,space:=l.getD 3 0,stretch:=l.getD 4 0,shrink:=l.getD 5 0,cost:=l.getD 6 0}
theorem y2 (row:Vamati.Row):(row.map Vamati.numbersOf).map uO=row:=by
 rw [List.map_map]
 have e:uO ∘ Vamati.numbersOf=id:=by
  funext a
  rfl
 rw [e,List.map_id]
section
variable {P:Program}{w:World}{K:PySem.W.Frag}{mg:Str->Option Value}{base:Heap}
abbrev tX (K:PySem.W.Frag):Sp:=spF K (aC (cT cI) aN) (fun d=>iO d.1) (cL (cT cI)) (fun d=>b7 d.1)
theorem tQ {b s u c f:Int}{row:Vamati.Row}(ne:row≠[])(len:row.length<=600):iO (b::s::u::c::0::f::row.flatMap Vamati.numbersOf):=by
 have hl:(b::s::u::c::0::f::row.flatMap Vamati.numbersOf).length=6+7 * row.length:=by simp only [List.length_cons,Bp.bH];omega
 have hr':0 < row.length:=List.length_pos_iff.mpr ne
 exact ⟨by omega,rfl,by omega⟩
abbrev yc (K:PySem.W.Frag):Sp:=spF K (aC cBk aN) (fun d=>b8 d.1) (cL (cT cI)) (fun d=>Bp.aB d.1)
theorem wx (F:aW K mg "sizes_of" gn ["block"])(N:Nums mg)(g1:Cal P w K mg base "is_paragraph" 1 (ie K))(g2:Cal P w K mg base "items_of" 3 (tX K)):Cal P w K mg base "sizes_of" 4 (yc K):=by
 refine F.cal iE len1 (fun f cdv A outer s H vs Q E hr h=>?_)
 obtain ⟨⟨b,u⟩,⟨v,_,rfl,h1,rfl⟩,hp,k⟩:=h
 have hp:b8 b:=hp
 have h1:cT cI K (Vamatk.numbersOf b) v H:=h1
 refine aH (d:=cC (Vamatk.numbersOf b)) (bn (aQ g1 (hr.mono (by decide)) (ad (R:=cQ cI) (d:=Vamatk.numbersOf b) (PX.toQT (ab 0 rfl h1)) ag) hp.long)) (fun hd H' s'=>?_) (fun hd H' s'=>?_)
 ·cases hp.cases with
  | disp y w h d e=>rw [e,Bp.bc] at hd;exact absurd (show decide ((1:Int)=0)=true from hd) (by decide)
  | para f row e ne len good fr=>
   have e1:Vamatk.numbersOf b=b.before::b.stretch::b.shrink::b.cost::0::f::row.flatMap Vamati.numbersOf:=by
    have:=congrArg Vamatk.numbersOf e
    rw [Bp.aV] at this
    exact this
   have e2:Bp.aB b=(row.map Vamati.numbersOf).map (fun l=>l.take 3):=by
    rw [e,List.map_map]
    rfl
   rw [e1] at h1
   refine ai (P:=cL (cT cI) K (Bp.aB b)) ?_ (fun v H2 s2 e=>k v H2 (s'.trans s2) e)
   rw [e2]
   refine PX.toL (eU (K:=K) (R:=cT cI) (S:=cT cI) [] 1 (fun l=>l.take 3) rfl iE.nd (aQ g2 hr (ad (R:=cT cI) (ab 0 rfl (Mono.mono s' h1)) ag) (tQ ne len) (gg _ _ _ _ _ _ row)) (by rw [List.length_map];exact a9 (by omega)) ?_)
   intro i d hd t H2 s2 r s0 H0' C cl fp
   obtain ⟨a,_,rfl⟩:=List.mem_map.mp (List.mem_of_getElem? hd)
   refine PX.cast (mD (K:=K) (R:=cI) (ab 1 rfl r) cE (aS (K:=K) (aD N.spacePlace)) ?_) (qM _ 3)
   rintro ⟨_,q2⟩
   have q2:HT.sIx 7 7 (some 3)=7:=q2
   revert q2
   decide
 ·cases hp.cases with
  | para f row e ne len good fr=>rw [e,Bp.aV] at hd;exact absurd (show decide ((0:Int)=0)=false from hd) (by decide)
  | disp y w h d e=>
   have e1:Vamatk.numbersOf b=[b.before,b.stretch,b.shrink,b.cost,1,y,w,h,d]:=by
    have:=congrArg Vamatk.numbersOf e
    rw [Bp.bc] at this
    exact this
   have e2:Bp.aB b=[[w,h,d]]:=by
    rw [e]
    rfl
   rw [e1] at h1
   refine ai (P:=cL (cT cI) K (Bp.aB b)) ?_ (fun v H2 s2 e=>k v H2 (s'.trans s2) e)
   rw [e2]
   refine PX.toL (bu (ao (R:=cT cI) (PX.cast (mD (K:=K) (R:=cI) (ab 0 rfl (Mono.mono s' h1)) (aS (K:=K) (aD N.displayWidth)) cE ?_) (ik _ 6)) aJ) (by show 1<=sizeLine;decide))
   rintro ⟨q1,_⟩
   have q1:HT.sIx 9 0 (some 6)=0:=q1
   revert q1
   decide
theorem mK {CR:Addr}(F:aW K mg "paragraph_row" dX ["block"])(N:Nums mg)(g1:gz P w K mg base "RowItem" CR 1 (vd K CR))(g2:Cal P w K mg base "items_of" 3 (tX K)):Cal P w K mg base "paragraph_row" 4 (spF K (aC cBk aN) (fun d=>b8 d.1/\cC (Vamatk.numbersOf d.1)=true) (cL (cRI CR)) (fun d=>uU d.1)):=by
 refine F.cal iP len1 (fun f cdv A outer s H vs Q E hr h=>?_)
 obtain ⟨⟨b,u⟩,⟨v,_,rfl,h1,rfl⟩,hp,k⟩:=h
 obtain ⟨hp,hd⟩:b8 b/\cC (Vamatk.numbersOf b)=true:=hp
 have h1:cT cI K (Vamatk.numbersOf b) v H:=h1
 cases hp.cases with
 | disp y w h d e=>rw [e,Bp.bc] at hd;exact absurd (show decide ((1:Int)=0)=true from hd) (by decide)
 | para f row e ne len good fr=>
  have e1:Vamatk.numbersOf b=b.before::b.stretch::b.shrink::b.cost::0::f::row.flatMap Vamati.numbersOf:=by
   have:=congrArg Vamatk.numbersOf e
   rw [Bp.aV] at this
   exact this
  have e2:uU b=(row.map Vamati.numbersOf).map uO:=by
   rw [y2,e]
   rfl
  rw [e1] at h1
  refine ai (P:=cL (cRI CR) K (uU b)) ?_ (fun v H2 s2 e=>k v H2 s2 e)
  rw [e2]
  refine PX.toL (eU (K:=K) (R:=cT cI) (S:=cRI CR) (Bp.bf 0) 1 uO rfl iP.nd (aQ g2 hr (ad (R:=cT cI) (ab 0 rfl h1) ag) (tQ ne len) (gg _ _ _ _ _ _ row)) (by rw [List.length_map];exact a9 (by omega)) ?_)
  intro i d hd t H2 s2 r s0 H0' C cl fp
  obtain ⟨a,_,rfl⟩:=List.mem_map.mp (List.mem_of_getElem? hd)
  have gx:∀ {j:Nat} {x:Str} {p:Pos} {n:Int} {p2:Pos},j < 7->True:=fun _=>trivial
  exact jk (d:=(a.width,a.space,a.shrink,a.cost,())) g1 (hr.mono (by decide)) (ad (R:=cI) (aI (K:=K) (R:=cI) (PX.toQT (ab 1 rfl r)) (aD N.widthPlace) (al (j:=0) rfl rfl)) (ad (R:=cI) (aI (K:=K) (R:=cI) (PX.toQT (ab 1 rfl r)) (aD N.spacePlace) (al (j:=3) rfl rfl)) (ad (R:=cI) (aI (K:=K) (R:=cI) (PX.toQT (ab 1 rfl r)) (aD N.spaceShrink) (al (j:=5) rfl rfl)) (ad (R:=cI) (aI (K:=K) (R:=cI) (PX.toQT (ab 1 rfl r)) (aD N.itemCost) (al (j:=6) rfl rfl)) ag)))) trivial (fun y H _ ⟨dx,e⟩=>⟨y,dx,rfl,e⟩)
abbrev yI (K:PySem.W.Frag)(CS:Addr):Sp:=spF K (aC cBk (aC cSt aN)) (fun d=>b8 d.1/\Vamatk.goodSettings d.2.1=true) (cL (cSp CS)) (fun d=>Bp.fC d.2.1 d.1)
theorem oU {CR CS:Addr}(F:aW K mg "block_spans" fi ["block","settings"])(N:Nums mg)(g0:Cal P w K mg base "is_paragraph" 1 (ie K))(g1:gz P w K mg base "RowItem" CR 1 (vd K CR))(g2:Cal P w K mg base "paragraph_row" 4 (spF K (aC cBk aN) (fun d=>b8 d.1/\cC (Vamatk.numbersOf d.1)=true) (cL (cRI CR)) (fun d=>uU d.1)))
  (g3:Cal P w K mg base "best_breaking" 6 (tJ K CR CS)):Cal P w K mg base "block_spans" 7 (yI K CS):=by
 refine F.cal jR len2 (fun f cdv A outer s H vs Q E hr h=>?_)
 obtain ⟨⟨b,st,u⟩,⟨v,_,rfl,h1,v2,_,rfl,h2,rfl⟩,hp,k⟩:=h
 obtain ⟨hp,hg⟩:b8 b/\Vamatk.goodSettings st=true:=hp
 have gs:=Bp.gY hg
 have h1:cT cI K (Vamatk.numbersOf b) v H:=h1
 have h2:cT cI K (qk st) v2 H:=h2
 refine aF (i:=2) (P:=cI K st.measure) jR.nd rfl (Or.inl rfl) (aI (K:=K) (R:=cI) (PX.toQT (ab 1 rfl h2)) (aD N.measure) (al (j:=0) rfl rfl)) fun v3 H3 s3 e3=>?_
 have e3:v3=.int st.measure:=e3
 subst e3
 have h13:cT cI K (Vamatk.numbersOf b) v H3:=Mono.mono s3 h1
 refine aH (d:=cC (Vamatk.numbersOf b)) (bn (aQ g0 (hr.mono (by decide)) (ad (R:=cQ cI) (d:=Vamatk.numbersOf b) (PX.toQT (ab 0 rfl h13)) ag) hp.long)) (fun hd H' s'=>?_) (fun hd H' s'=>?_)
 ·cases hp.cases with
  | disp y w h d e=>rw [e,Bp.bc] at hd;exact absurd (show decide ((1:Int)=0)=true from hd) (by decide)
  | para f row e ne len good fr=>
   have e1:Vamatk.numbersOf b=b.before::b.stretch::b.shrink::b.cost::0::f::row.flatMap Vamati.numbersOf:=by
    have:=congrArg Vamatk.numbersOf e
    rw [Bp.aV] at this
    exact this
   have e2:uU b=row:=by rw [e];rfl
   have e5:Bp.fC st b=Bp.bC row (Vamatk.measureOf st f):=by rw [e];rfl
   have hb':cBk K b v H':=(Mono.mono s' h13:cT cI K (Vamatk.numbersOf b) v H')
   have h14:cT cI K (b.before::b.stretch::b.shrink::b.cost::0::f::row.flatMap Vamati.numbersOf) v H':=by rw [<-e1];exact Mono.mono s' h13
   refine ai (P:=cL (cSp CS) K (Bp.fC st b)) ?_ (fun v H2 s2 e=>k v H2 (s3.trans (s'.trans s2)) e)
   refine aQ g3 hr (ad (R:=cL (cRI CR)) (d:=row) (aQ g2 (hr.mono (by decide)) (ad (R:=cBk) (d:=b) (ab 0 rfl hb') ag) ⟨hp,hd⟩ e2) (ad (R:=cFr) (d:=Vamatk.measureOf st f) (bG (K:=K) (ab (R:=cI) 2 rfl rfl) (aI (K:=K) (R:=cI) (PX.toQT (ab 0 rfl h14)) (aD N.firstIndent) (al (j:=5) rfl rfl))) (ad (R:=cRm) (d:=Vamatk.measureOf st f) (bG (K:=K) (ab (R:=cI) 2 rfl rfl) (aI (K:=K) (R:=cI) (PX.toQT (ab 1 rfl (Mono.mono (s3.trans s') h2))) (aD N.indent) (al (j:=1) rfl rfl))) ag))) ⟨Bp.w8 good len,rfl,?_⟩ e5.symm
   refine ⟨?_,?_,?_,?_⟩
   all_goals
    simp only [Vamatk.measureOf]
    omega
 ·cases hp.cases with
  | para f row e ne len good fr=>rw [e,Bp.aV] at hd;exact absurd (show decide ((0:Int)=0)=false from hd) (by decide)
  | disp y w h d e wr=>
   have e1:Vamatk.numbersOf b=[b.before,b.stretch,b.shrink,b.cost,1,y,w,h,d]:=by
    have:=congrArg Vamatk.numbersOf e
    rw [Bp.bc] at this
    exact this
   have e5:Bp.fC st b=Bp.bC [Bp.bf w] (Bp.fB st.measure):=by rw [e];rfl
   have h14:cT cI K [b.before,b.stretch,b.shrink,b.cost,1,y,w,h,d] v H':=by rw [<-e1];exact Mono.mono s' h13
   refine ai (P:=cL (cSp CS) K (Bp.fC st b)) ?_ (fun v H2 s2 e=>k v H2 (s3.trans (s'.trans s2)) e)
   have em:(V.int st.measure)=.int ((Bp.fB st.measure).measure - (Bp.fB st.measure).first):=by
    show V.int st.measure=.int (st.measure - 0)
    rw [Int.sub_zero]
   refine aQ g3 hr (ad (R:=cL (cRI CR)) (d:=[Bp.bf w]) (PX.toL (bu (ao (R:=cRI CR) (d:=Bp.bf w) (jk (d:=(w,0,0,0,())) g1 (hr.mono (by decide)) (ad (R:=cI) (aI (K:=K) (R:=cI) (PX.toQT (ab 0 rfl h14)) (aD N.displayWidth) (al (j:=6) rfl rfl)) (ad (R:=cI) ax (ad (R:=cI) ax (ad (R:=cI) ax ag)))) trivial (fun y H _ ⟨dx,e⟩=>⟨y,dx,rfl,e⟩)) aJ) (by show 1<=sizeLine;decide))) (ad (R:=cFr) (d:=Bp.fB st.measure) (ab (K:=K) 2 rfl em) (ad (R:=cRm) (d:=Bp.fB st.measure) (ab (K:=K) 2 rfl em) ag))) ⟨Bp.xg wr,rfl,?_⟩ e5.symm
   refine ⟨?_,?_,?_,?_⟩
   all_goals
    simp only [Bp.fB]
    omega
end
structure lB (K:PySem.W.Frag)(C:Addr):Prop where
 cl:Cls K C
 owner:aA K C "owner"
 first:aA K C "first"
 last:aA K C "last"
 height:aA K C "height"
 depth:aA K C "depth"
 overfull:aA K C "overfull"
 opens:aA K C "opens"
 closes:aA K C "closes"
def lnF (l:Vamatk.Line):List (Str×V):=[("owner",.int l.block),("first",.int l.from_),("last",.int l.to_),("height",.int l.height),("depth",.int l.depth),("overfull",.int l.over),("opens",.bl l.first),("closes",.bl l.last)]
abbrev lnN:List Str:=["owner","first","last","height","depth","overfull","opens","closes"]
theorem aeT:lnN.Nodup:=by decide +kernel
def cLn (C:Addr):Rp Vamatk.Line:=cO C lnF
instance {C:Addr}:Mono (cLn C):=inferInstanceAs (Mono (cO C _))
instance {C:Addr}:Frz (cLn C):=inferInstanceAs (Frz (cO C _))
theorem gF:∀ (l:List Int),l≠[]->Vamati.greatest l∈l/\∀ y∈l,y<=Vamati.greatest l
 | [],h=>absurd rfl h
 | a::r,_=>by
  show r.foldl (fun (m:Int) x=>max m x) a∈a::r/\∀ y∈a::r,y<=r.foldl (fun (m:Int) x=>max m x) a
  have key:∀ (r:List Int) (a:Int),r.foldl (fun (m:Int) x=>max m x) a∈a::r/\∀ y∈a::r,y<=r.foldl (fun (m:Int) x=>max m x) a:=by
   intro r
   induction r with
   | nil=>
    intro a
    exact ⟨List.mem_cons_self,fun y hy=>by have:=List.mem_singleton.mp hy;rw [this];exact Int.le_refl _⟩
   | cons b r ih=>
    intro a
    rw [List.foldl_cons]
    obtain ⟨h1,h2⟩:=ih (max a b)
    refine ⟨?_,fun y hy=>?_⟩
    ·rcases List.mem_cons.mp h1 with e | e
     ·rw [e]
      by_cases q:a<=b
      ·rw [show max a b=b by omega]
       exact List.mem_cons_of_mem _ List.mem_cons_self
      ·rw [show max a b=a by omega]
       exact List.mem_cons_self
     ·exact List.mem_cons_of_mem _ (List.mem_cons_of_mem _ e)
    ·have hm:=h2 (max a b) List.mem_cons_self
     rcases List.mem_cons.mp hy with e | e
     ·rw [e];omega
     ·rcases List.mem_cons.mp e with e | e
      ·rw [e];omega
      ·exact h2 y (List.mem_cons_of_mem _ e)
  exact key r a
structure ac7 (x:Bp.Sp5)(sizes:List (List Int)):Prop where
 f0:0<=x.first
 fl:x.first<=x.last
 ll:x.last < sizes.length
 len:sizes.length<=1000
 three:∀ z∈sizes,z.length=3
section
variable {P:Program}{w:World}{K:PySem.W.Frag}{mg:Str->Option Value}{base:Heap}
theorem db {X:Cx}{σ:L2.St}{e:Expr}{pos:Pos}{CS:Addr}{d:Bp.Sp5}{H:Hp}{f:Str}{n:Int}(i:Nat)(c:Cls X.K CS)(na:aA X.K CS f)(he:PX X σ H e (cSp CS K d))(hi:(adK d)[i]?=some (f,.int n):=by rfl)(hb:attributeBase e f X.env (eval e X.env)=eval e X.env:=by rfl):
  PX X σ H (.Attribute e f pos) (cI K n):=
 kd c na (fun H1 s1 Q k=>he H1 s1 Q fun v H2 s2 ⟨p,dx,e2,e3⟩=>k v H2 s2 ⟨p,dx,_,.int n,e2,e3,lk (ns:=["first","last","slack","overfull","cost"]) i rfl (by decide +kernel) hi,rfl⟩) hb
theorem bQ {X:Cx}{σ:L2.St}{e:Expr}{pos:Pos}{CB:Addr}{d:Vamatk.Line}{H:Hp}{f:Str}{u:V}(i:Nat)(c:Cls X.K CB)(na:aA X.K CB f)(he:PX X σ H e (cLn CB K d))(hi:(lnF d)[i]?=some (f,u):=by rfl)(hb:attributeBase e f X.env (eval e X.env)=eval e X.env:=by rfl):
  PX X σ H (.Attribute e f pos) (cV K u):=
 kd c na (fun H1 s1 Q k=>he H1 s1 Q fun v H2 s2 ⟨p,dx,e2,e3⟩=>k v H2 s2 ⟨p,dx,_,u,e2,e3,lk (ns:=lnN) i rfl aeT hi,rfl⟩) hb
abbrev abQ (K:PySem.W.Frag)(CB CS:Addr):Sp:=spJ K CB (aC aU (aC (cSp CS) (aC (cL (cT cI)) aN))) (fun d=>ac7 d.2.1 d.2.2.1) (fun d x H=>cLn CB K (Bp.pC d.1 d.2.2.1 d.2.1) (.ref x) H)
theorem acJ {x:Bp.Sp5}{sizes:List (List Int)}(o:ac7 x sizes):((sizes.take (x.last.toNat+1)).drop x.first.toNat)≠[]/\(∀ z∈(sizes.take (x.last.toNat+1)).drop x.first.toNat,z.length=3)/\((sizes.take (x.last.toNat+1)).drop x.first.toNat).length<=1000:=by
 have h1:=o.f0
 have h2:=o.fl
 have h3:=o.ll
 have h4:=o.len
 refine ⟨?_,fun z hz=>o.three z (List.mem_of_mem_take (List.mem_of_mem_drop hz)),?_⟩
 ·intro e
  have:=congrArg List.length e
  rw [List.length_drop,List.length_take] at this
  simp at this
  omega
 ·rw [List.length_drop,List.length_take]
  omega
theorem uC {CB CS:Addr}(F:gr K mg "BlockLine" CB "BlockLine.__init__" dq ["self","owner","span","sizes"])(c:lB K CB)(cs:qg K CS)(N:Nums mg)(B:Blt mg):gz P w K mg base "BlockLine" CB 1 (abQ K CB CS):=by
 refine F.cal ig (fun vs H Q E h=>?_) (fun f cdv A outer s H vs Q E hr h=>?_)
 ·obtain ⟨x,dx,d,ws,Hb,rfl,_,_,_,⟨v1,_,rfl,_,v2,_,rfl,_,v3,_,rfl,_,rfl⟩,_⟩:=h
  rfl
 ·obtain ⟨x,dx,⟨o,sp,sizes,u⟩,ws,Hb,rfl,hx,sb,nb,⟨v1,_,rfl,h1,v2,_,rfl,h2,v3,_,rfl,h3,rfl⟩,hp,k⟩:=h
  have hp:ac7 sp sizes:=hp
  have h1:v1=.int (o:Int):=h1
  subst h1
  have h2:cSp CS K sp v2 Hb:=h2
  have h3:cL (cT cI) K sizes v3 Hb:=h3
  have nd:=ig.nd
  obtain ⟨hne,h33,hlen⟩:=acJ hp
  have f0:=hp.f0
  have f1:=hp.fl
  have f2:=hp.ll
  have ea:sp.first=((sp.first.toNat:Nat):Int):=by omega
  have eb:sp.last+1=((sp.last.toNat+1:Nat):Int):=by omega
  generalize eh:(sizes.take (sp.last.toNat+1)).drop sp.first.toNat=held at hne h33 hlen
  refine aF (i:=4) (P:=cL (cT cI) K held) nd rfl (Or.inl rfl) (PX.cast (R:=cL (cT cI)) (PX.toL (eO (K:=K) (R:=cT cI) (ab 3 rfl (Mono.mono sb h3)) (aS (K:=K) (db 0 cs.cl cs.first (ab 2 rfl (Mono.mono sb h2)))) (aS (K:=K) (aY (db 1 cs.cl cs.last (ab 2 rfl (Mono.mono sb h2))) ax)))) (by rw [l7 sizes ea eb,eh])) fun v5 H5 s5 e5=>?_
  have o5:Ob H x CB dx [] H5:=(Ob.start hx).later s5
  have sb5:=o5.base sb nb
  obtain ⟨hl,hxs,rfl,hq,hz⟩:=e5
  have hhl:∀ {H9},(∀ b o,H5 b=some o->b≠x->H9 b=some o)->cL (cT cI) K held (.ref hl) H9:=fun {H9} kp=>by
   refine ⟨hl,hxs,rfl,?_,Paired.mapP hz fun _ _ ⟨a,ys,e1,e2,e3⟩=>⟨a,ys,e1,?_,Paired.mapP e3 fun _ _ q=>q⟩⟩
   ·rcases hq with (q | ⟨ob,q⟩) | q
    ·exact .inl (.inl (kp _ _ q (b9 q o5.obj (by intro z;cases z))))
    ·exact .inl (.inr ⟨ob,kp _ _ q (b9 q o5.obj (by intro z;cases z))⟩)
    ·exact .inr q
   ·rcases e2 with (q | ⟨ob,q⟩) | q
    ·exact .inl (.inl (kp _ _ q (b9 q o5.obj (by intro z;cases z))))
    ·exact .inl (.inr ⟨ob,kp _ _ q (b9 q o5.obj (by intro z;cases z))⟩)
    ·exact .inr q
  have kp0:∀ b o,H5 b=some o->b≠x->H5 b=some o:=fun _ _ e _=>e
  refine bt (K:=K) c.cl c.owner [] o5 (ay 1) (fun H6 o6 k6=>?_) (by simp)
  have sb6:=o6.base sb nb
  refine bt (K:=K) (u:=.int sp.first) c.cl c.first ["owner"] o6 (db 0 cs.cl cs.first (ab 2 rfl (Mono.mono sb6 h2))) (fun H7 o7 k7=>?_) (by decide +kernel)
  have sb7:=o7.base sb nb
  refine bt (K:=K) (u:=.int sp.last) c.cl c.last ["owner","first"] o7 (db 1 cs.cl cs.last (ab 2 rfl (Mono.mono sb7 h2))) (fun H8 o8 k8=>?_) (by decide +kernel)
  have hz8:=hhl fun b o e n=>k8 b o (k7 b o (k6 b o e n) n) n
  have mx:∀ (j:Nat),j < 3->(held.map fun z=>z.getD j 0)≠[]:=fun j _ e=>hne (List.map_eq_nil_iff.mp e)
  refine bt (K:=K) (u:=.int (Vamati.greatest (held.map fun z=>z.getD 1 0))) c.cl c.height ["owner","first","last"] o8 (yp (K:=K) rfl (PX.toL (eU (K:=K) (R:=cT cI) (S:=cI) 0 5 (fun z=>z.getD 1 0) rfl nd (ab 4 rfl hz8) (mv hlen) ?_)) (gF _ (mx 1 (by decide))).1 (gF _ (mx 1 (by decide))).2 B.max lP) (fun H9 o9 k9=>?_) (by decide +kernel)
  ·intro i d hd t H' s' r s0 H0' C cl fp
   have:=h33 d (List.mem_of_getElem? hd)
   exact aI (K:=K) (R:=cI) (PX.toQT (ab 5 rfl r)) (aD N.heightPlace) (al (j:=1) rfl (gd (by omega)))
  have hz9:=hhl fun b o e n=>k9 b o (k8 b o (k7 b o (k6 b o e n) n) n) n
  refine bt (K:=K) (u:=.int (Vamati.greatest (held.map fun z=>z.getD 2 0))) c.cl c.depth ["owner","first","last","height"] o9 (yp (K:=K) rfl (PX.toL (eU (K:=K) (R:=cT cI) (S:=cI) 0 5 (fun z=>z.getD 2 0) rfl nd (ab 4 rfl hz9) (mv hlen) ?_)) (gF _ (mx 2 (by decide))).1 (gF _ (mx 2 (by decide))).2 B.max lP) (fun H10 o10 k10=>?_) (by decide +kernel)
  ·intro i d hd t H' s' r s0 H0' C cl fp
   have:=h33 d (List.mem_of_getElem? hd)
   exact aI (K:=K) (R:=cI) (PX.toQT (ab 5 rfl r)) (aD N.depthPlace) (al (j:=2) rfl (gd (by omega)))
  have sb10:=o10.base sb nb
  refine bt (K:=K) (u:=.int sp.over) c.cl c.overfull ["owner","first","last","height","depth"] o10 (db 3 cs.cl cs.overfull (ab 2 rfl (Mono.mono sb10 h2))) (fun H11 o11 k11=>?_) (by decide +kernel)
  have sb11:=o11.base sb nb
  refine bt (K:=K) (u:=.bl (decide (sp.first=0))) c.cl c.opens ["owner","first","last","height","depth","overfull"] o11 (pH (db 0 cs.cl cs.first (ab 2 rfl (Mono.mono sb11 h2))) ax) (fun H12 o12 k12=>?_) (by decide +kernel)
  have sb12:=o12.base sb nb
  refine bt (K:=K) (u:=.bl (decide (sp.last=(sizes.length:Int) - 1))) c.cl c.closes ["owner","first","last","height","depth","overfull","opens"] o12 (pH (db 1 cs.cl cs.last (ab 2 rfl (Mono.mono sb12 h2))) (bG (dc (K:=K) (R:=cT cI) (PX.toQ (ab 3 rfl (Mono.mono sb12 h3))) B.len) ax)) (fun H13 o13 k13=>?_) (by decide +kernel)
  refine bj (k H13 ⟨x,dx,rfl,?_⟩ (o13.base sb nb))
  rw [o13.obj]
  unfold Bp.pC lnF
  simp only
  rw [eh,show ((sp.first.toNat:Nat):Int)=sp.first by omega,show ((sp.last.toNat:Nat):Int)=sp.last by omega]
  rfl
theorem aay {s:Vamatk.Settings}{b:Vamatk.Block}(o:b8 b):∀ x∈Bp.fC s b,ac7 x (Bp.aB b):=by
 intro x hx
 cases o.cases with
 | para f row e ne len good fr=>
  have e1:Bp.fC s b=Bp.bC row (Vamatk.measureOf s f):=by rw [e];rfl
  have e2:Bp.aB b=row.map Bp.size3:=by rw [e];rfl
  rw [e1] at hx
  rw [e2]
  obtain ⟨p,hp,rfl⟩:=List.mem_map.mp hx
  obtain ⟨_,q2,q3,_⟩:=Bp.kG row _ 0 (Bp.best_breaking row (Vamatk.measureOf s f)) p hp
  refine ⟨?_,?_,?_,by rw [List.length_map];omega,?_⟩
  ·show (0:Int)<=(p.1:Int)
   omega
  ·show (p.1:Int)<=(p.2:Int)
   omega
  ·rw [List.length_map]
   show (p.2:Int) < (row.length:Int)
   omega
  ·intro z hz
   obtain ⟨a,_,rfl⟩:=List.mem_map.mp hz
   rfl
 | disp y w h d e wr=>
  obtain ⟨c,e0⟩:=Bp.oZ w s.measure
  have e1:Bp.fC s b=[⟨0,0,s.measure - w,Vamati.atLeast0 (w - s.measure),c⟩]:=by rw [e];exact e0
  have e2:Bp.aB b=[[w,h,d]]:=by rw [e];rfl
  rw [e1] at hx
  rw [e2]
  have:=List.mem_singleton.mp hx
  subst this
  refine ⟨Int.le_refl _,Int.le_refl _,by show (0:Int) < 1;decide,by show 1<=1000;decide,?_⟩
  intro z hz
  have:=List.mem_singleton.mp hz
  subst this
  rfl
structure ab8 (bs:List Vamatk.Block)(s:Vamatk.Settings):Prop where
 so:Bp.Sound ⟨s,bs⟩
theorem ab8.bk {bs:List Vamatk.Block}{s:Vamatk.Settings}(o:ab8 bs s){b:Vamatk.Block}(h:b∈bs):b8 b:=b8.of o.so h
def i4 (bs:List Vamatk.Block)(s:Vamatk.Settings)(i:Nat):List Vamatk.Line:=((bs.take i).zipIdx).flatMap fun x=>Vamatk.blockLines s x.2 x.1
theorem mZ {bs:List Vamatk.Block}{s:Vamatk.Settings}{i:Nat}{b:Vamatk.Block}(h:bs[i]?=some b):i4 bs s (i+1)=i4 bs s i++Vamatk.blockLines s i b:=by
 obtain ⟨hi,e⟩:=List.getElem?_eq_some_iff.mp h
 unfold i4
 rw [List.take_succ_eq_append_getElem hi,e,List.zipIdx_append,List.flatMap_append,List.length_take,Nat.min_eq_left (Nat.le_of_lt hi)]
 simp
theorem pG {bs:List Vamatk.Block}{s:Vamatk.Settings}(o:ab8 bs s)(i:Nat):(i4 bs s i).length<=660:=by
 have h:=Bp.sZ s (bs.take i) 0
 have h1:bs.length<=60:=o.so.many
 have h2:Vamatk.itemsIn bs<=600:=o.so.items
 have h3:=Bp.cx (bs.take i) (bs.drop i)
 rw [List.take_append_drop] at h3
 rw [List.length_take] at h
 unfold i4
 omega
abbrev ye (K:PySem.W.Frag)(CB:Addr):Sp:=spF K (aC (cL cBk) (aC cSt aN)) (fun d=>ab8 d.1 d.2.1) (cL (cLn CB)) (fun d=>Vamatk.allLines ⟨d.2.1,d.1⟩)
theorem qL {CB CS:Addr}(F:aW K mg "block_lines" eX ["blocks","settings"])(B:Blt mg)(g1:Cal P w K mg base "sizes_of" 4 (yc K))(g2:Cal P w K mg base "block_spans" 7 (yI K CS))(g3:gz P w K mg base "BlockLine" CB 1 (abQ K CB CS)):Cal P w K mg base "block_lines" 8 (ye K CB):=by
 refine F.cal jU len2 (fun f cdv A outer s H vs Q E hr h=>?_)
 obtain ⟨⟨bs,st,u⟩,⟨v,_,rfl,h1,v2,_,rfl,h2,rfl⟩,hp,k⟩:=h
 have hp:ab8 bs st:=hp
 have nd:=jU.nd
 obtain ⟨l,xs,rfl,q,z⟩:=h1
 refine aF (i:=2) (P:=cF H (cLn CB) K []) nd rfl (Or.inl rfl) (bu (R:=cLn CB) aJ (Nat.zero_le _)) fun v3 H3 s3 e3=>?_
 obtain ⟨qa,ys,rfl,hq0,hq,hz⟩:=e3
 refine kN (K:=K) (l:=l) (xs:=xs) (i1:=3) (i2:=4) PassesOwn.never rfl (ay 0) (s3.seq q) (jd rfl (bE (bg (i:=3) nd rfl (Or.inr rfl)) (bE (bg (i:=4) nd rfl (Or.inl rfl)) gN))) (fun H5 s5=>?_) B.enum
 refine ⟨fun i σ' H'=>i<=bs.length/\Same H H'/\∃ zs o3 o4 o5,σ'=[some (.ref l),some v2,some (.ref qa),o3,o4,o5,none]/\H' qa=some (.lst zs)/\All (cLn CB) K H' zs (i4 bs st i),?_,?_,?_,?_⟩
 ·exact ⟨Nat.zero_le _,s3.trans s5,ys,none,none,none,rfl,s5 _ _ hq,hz.mono s5⟩
 ·rintro i σ' H' ⟨_,s',_⟩
  exact s'.seq q
 ·rintro i u σ' H' hu ⟨hi,s6,zs,o3,o4,o5,rfl,hqt,hzt⟩ H2' s2' back
  obtain ⟨b,hb,rb⟩:=z.getV hu
  have bk:=hp.bk (List.mem_of_getElem? hb)
  have s7:=s6.trans s2'
  refine aF (i:=5) (P:=cL (cT cI) K (Bp.aB b)) nd rfl (Or.inr rfl) (aQ g1 (hr.mono (by decide)) (ad (R:=cBk) (d:=b) (ab 4 rfl (Mono.mono s7 rb)) ag) bk) fun v8 H8 s8 e8=>?_
  have s78:=s7.trans s8
  have hq8:H8 qa=some (.lst zs):=s8 _ _ (s2' _ _ hqt)
  have hl:=hzt.length
  have hb1:=pG hp i
  have hb2:=pG hp (i+1)
  rw [mZ hb,List.length_append] at hb2
  have hsl:(Bp.fC st b).length=(Vamatk.blockLines st i b).length:=by rw [Bp.jY,List.length_map]
  refine eJ (pa:=qa) (xs:=zs) (Pz:=fun ws H=>All (cLn CB) K H ws ((Bp.fC st b).map (Bp.pC i (Bp.aB b)))) (ab (R:=cV) (K:=K) 2 rfl rfl) (PX.imp (eU (K:=K) (R:=cSp CS) (S:=cLn CB) (Bp.pC 0 [] ⟨0,0,0,0,0⟩) 6 (Bp.pC i (Bp.aB b)) rfl nd (aQ g2 hr (ad (R:=cBk) (d:=b) (ab 4 rfl (Mono.mono s78 rb)) (ad (R:=cSt) (d:=st) (ab 1 rfl (Mono.mono s78 h2)) ag)) ⟨bk,hp.so.settings⟩) (a9 (by omega)) ?_) fun v H _ ⟨p,ws,e1,_,e2,e3⟩=>⟨p,ws,e1,e2,e3⟩) hq8 (fun ws H' s' zz=>Nat.le_of_lt (a9 (by rw [hl,zz.length,List.length_map];omega))) (fun ws H9 s9 zz=>?_)
  ·intro j d hd t H9 s9 r s0 H0' C cl fp
   exact tN (d:=(i,d,Bp.aB b,())) g3 (hr.mono (by decide)) (ad (R:=aU) (ab 3 rfl rfl) (ad (R:=cSp CS) (ab 6 rfl r) (ad (R:=cL (cT cI)) (ab 5 rfl (Mono.mono s9 e8)) ag))) (aay bk d (List.mem_of_getElem? hd)) (fun y H _ e=>e)
  ·have h9:H9 qa=some (.lst zs):=s9 _ _ hq8
   have hi':=(List.getElem?_eq_some_iff.mp hb).1
   refine bj ⟨hi',bK (s78.trans s9) hq0,zs++ws,some (.int i),some u,some v8,rfl,aj,?_⟩
   rw [mZ hb,Bp.jY]
   exact ((hzt.mono (s2'.trans (s8.trans s9))).put h9).append (zz.put h9)
 ·rintro σ' H' ⟨_,s6,zs,o3,o4,o5,rfl,hqt,hzt⟩
  rw [z.length] at hzt
  have e:i4 bs st bs.length=Vamatk.allLines ⟨st,bs⟩:=by
   unfold i4 Vamatk.allLines
   rw [List.take_length]
  rw [e] at hzt
  exact ai (P:=cL (cLn CB) K (Vamatk.allLines ⟨st,bs⟩)) (ab 2 rfl ⟨qa,zs,rfl,SqL.of hqt,hzt⟩) (fun v H9 s9 e9=>k v H9 (s6.trans s9) e9)
theorem zW {CB:Addr}(F:aW K mg "extent" lH ["line"])(c:lB K CB)(B:Blt mg):Cal P w K mg base "extent" 1 (spF K (aC (cLn CB) aN) (fun _=>True) cI (fun d=>Vamati.atLeast0 (d.1.height+d.1.depth))):=by
 refine F.cal abC len1 (fun f cdv A outer s H vs Q E hr h=>?_)
 obtain ⟨⟨l,u⟩,⟨v,_,rfl,h1,rfl⟩,hp,k⟩:=h
 have h1:cLn CB K l v H:=h1
 refine ai (P:=cI K (Vamati.atLeast0 (l.height+l.depth))) (PX.cast (oF rfl ax (aY (K:=K) (i:=l.height) (j:=l.depth) (bQ 3 c.cl c.height (ab 0 rfl h1)) (bQ 4 c.cl c.depth (ab 0 rfl h1))) B.max lP) ?_) (fun v H2 s2 e=>k v H2 s2 e)
 unfold Vamati.atLeast0
 split<;>omega
abbrev adx (K:PySem.W.Frag)(CB:Addr):Sp:=spF K (aC (cLn CB) aN) (fun _=>True) cI (fun d=>Vamati.atLeast0 (d.1.height+d.1.depth))
structure afx (a b:Vamatk.Line)(bs:List Vamatk.Block):Prop where
 a:a.block < bs.length
 b:b.block < bs.length
 bk:∀ x∈bs,b8 x
theorem yz (b:Vamatk.Block):∃ r,Vamatk.numbersOf b=b.before::b.stretch::b.shrink::b.cost::r:=⟨_,rfl⟩
abbrev adz (K:PySem.W.Frag)(CB CR:Addr):Sp:=spF K (aC (cLn CB) (aC (cLn CB) (aC (cL cBk) (aC cSt aN)))) (fun d=>afx d.1 d.2.1 d.2.2.1) (cRI CR) (fun d=>Bp.bY ⟨d.2.2.2.1,d.2.2.1⟩ d.1 d.2.1)
theorem pk {CB CR:Addr}(F:aW K mg "column_item" fg ["line","below","blocks","settings"])(c:lB K CB)(N:Nums mg)(B:Blt mg)(g1:Cal P w K mg base "extent" 1 (adx K CB))(g2:gz P w K mg base "RowItem" CR 1 (vd K CR)):Cal P w K mg base "column_item" 3 (adz K CB CR):=by
 refine F.cal jW len4 (fun f cdv A outer s H vs Q E hr h=>?_)
 obtain ⟨⟨a,b,bs,st,u⟩,⟨v,_,rfl,h1,v2,_,rfl,h2,v3,_,rfl,h3,v4,_,rfl,h4,rfl⟩,hp,k⟩:=h
 have hp:afx a b bs:=hp
 have h1:cLn CB K a v H:=h1
 have h2:cLn CB K b v2 H:=h2
 have h3:cL cBk K bs v3 H:=h3
 have h4:cT cI K (qk st) v4 H:=h4
 have nd:=jW.nd
 have ea:bs[a.block]?=some (bs[a.block]'hp.a):=List.getElem?_eq_getElem hp.a
 have eb:bs[b.block]?=some (bs[b.block]'hp.b):=List.getElem?_eq_getElem hp.b
 generalize ha':bs[a.block]'hp.a=ba at ea
 generalize hb':bs[b.block]'hp.b=bb at eb
 obtain ⟨ra,hra⟩:=yz ba
 obtain ⟨rb,hrb⟩:=yz bb
 refine aF (i:=4) (P:=cI K (max st.gap (st.lead - a.depth - b.height))) nd rfl (Or.inl rfl) (oF rfl (aI (K:=K) (R:=cI) (PX.toQT (ab 3 rfl h4)) (aD N.gap) (al (j:=3) rfl rfl)) (bG (K:=K) (j:=b.height) (bG (K:=K) (j:=a.depth) (aI (K:=K) (R:=cI) (PX.toQT (ab 3 rfl h4)) (aD N.lead) (al (j:=2) rfl rfl)) (bQ 4 c.cl c.depth (ab 0 rfl h1))) (bQ 3 c.cl c.height (ab 1 rfl h2))) B.max lP) fun v5 H5 s5 e5=>?_
 have e5:v5=.int (max st.gap (st.lead - a.depth - b.height)):=e5
 subst e5
 refine aH (d:=b.first) (bn (K:=K) (bQ 6 c.cl c.opens (ab 1 rfl (Mono.mono s5 h2)))) (fun hd H6 s6=>?_) (fun hd H6 s6=>?_)
 ·have s56:=s5.trans s6
  refine aF (i:=5) (P:=cBk K bb) nd rfl (Or.inl rfl) (aI (K:=K) (R:=cBk) (i:=(b.block:Int)) (PX.toQ (ab 2 rfl (Mono.mono s56 h3))) (bQ 0 c.cl c.owner (ab 1 rfl (Mono.mono s56 h2))) (al rfl eb)) fun v7 H7 s7 e7=>?_
  have s57:=s56.trans s7
  refine aF (i:=6) (P:=cI K ba.cost) nd rfl (Or.inl rfl) (aI (K:=K) (R:=cI) (as:=Vamatk.numbersOf ba) (PX.toQT (aI (K:=K) (R:=cBk) (i:=(a.block:Int)) (PX.toQ (ab 2 rfl (Mono.mono s57 h3))) (bQ 0 c.cl c.owner (ab 0 rfl (Mono.mono s57 h1))) (al rfl ea))) (aD N.blockCost) (al (j:=3) rfl (by rw [hra];rfl))) fun v8 H8 s8 e8=>?_
  have s58:=s57.trans s8
  have e7':cT cI K (Vamatk.numbersOf bb) v7 H8:=(Mono.mono s8 e7:cBk K bb v7 H8)
  refine ai (P:=cRI CR K (Bp.bY ⟨st,bs⟩ a b)) (jk (d:=(Vamati.atLeast0 (a.height+a.depth),max st.gap (st.lead - a.depth - b.height)+bb.before,bb.shrink,ba.cost,())) g2 hr (ad (R:=cI) (aQ g1 (hr.mono (by decide)) (ad (R:=cLn CB) (d:=a) (ab 0 rfl (Mono.mono s58 h1)) ag) trivial) (ad (R:=cI) (aY (ab (R:=cI) 4 rfl rfl) (aI (K:=K) (R:=cI) (PX.toQT (ab 5 rfl e7')) (aD N.beforePlace) (al (j:=0) rfl (by rw [hrb];rfl)))) (ad (R:=cI) (aI (K:=K) (R:=cI) (PX.toQT (ab 5 rfl e7')) (aD N.beforeShrink) (al (j:=2) rfl (by rw [hrb];rfl))) (ad (R:=cI) (ab 6 rfl e8) ag)))) trivial (fun y H _ ⟨dx,e⟩=>⟨y,dx,rfl,?_⟩)) (fun v H2 s2 e=>k v H2 (s58.trans s2) e)
  rw [e]
  unfold Bp.bY Vamatk.spaceBetween Vamatk.costBetween
  simp only [hd,ea,eb,Option.map_some,Option.getD_some,if_true]
 ·have s56:=s5.trans s6
  refine ai (P:=cRI CR K (Bp.bY ⟨st,bs⟩ a b)) (jk (d:=(Vamati.atLeast0 (a.height+a.depth),max st.gap (st.lead - a.depth - b.height),0,if (a.first || b.last)=true then st.orphan else 0,())) g2 hr (ad (R:=cI) (aQ g1 (hr.mono (by decide)) (ad (R:=cLn CB) (d:=a) (ab 0 rfl (Mono.mono s56 h1)) ag) trivial) (ad (R:=cI) (ab (R:=cI) 4 rfl rfl) (ad (R:=cI) ax (ad (R:=cI) (k4 (d:=a.first || b.last) (PWX.pt (xF (bn (K:=K) (bQ 6 c.cl c.opens (ab 0 rfl (Mono.mono s56 h1)))) (t6 (bn (K:=K) (bQ 7 c.cl c.closes (ab 1 rfl (Mono.mono s56 h2))))))) (fun z=>PX.cast (aI (K:=K) (R:=cI) (PX.toQT (ab 3 rfl (Mono.mono s56 h4))) (aD N.orphan) (al (j:=5) rfl rfl)) (by rw [if_pos z])) (fun z=>PX.cast ax (by rw [if_neg (by rw [z];simp)]))) ag)))) trivial (fun y H _ ⟨dx,e⟩=>⟨y,dx,rfl,?_⟩)) (fun v H2 s2 e=>k v H2 (s56.trans s2) e)
  rw [e]
  unfold Bp.bY Vamatk.spaceBetween Vamatk.costBetween
  simp only [hd,Bool.false_eq_true,if_false,Int.add_zero,Bool.or_eq_true]
abbrev wt (K:PySem.W.Frag)(CB CR:Addr):Sp:=spF K (aC (cL (cLn CB)) (aC (cL cBk) (aC cSt aN))) (fun d=>d.1.length<=700/\(∀ l∈d.1,l.block < d.2.1.length)/\∀ x∈d.2.1,b8 x) (cL (cRI CR)) (fun d=>Vamatk.columnFrom ⟨d.2.2.1,d.2.1⟩ d.1)
theorem rR {CB CR:Addr}(F:aW K mg "column_row" fP ["lines","blocks","settings"])(B:Blt mg)(g1:Cal P w K mg base "extent" 1 (adx K CB))(g2:gz P w K mg base "RowItem" CR 1 (vd K CR))(g3:Cal P w K mg base "column_item" 3 (adz K CB CR)):Cal P w K mg base "column_row" 4 (wt K CB CR):=by
 refine F.cal lA len3 (fun f cdv A outer s H vs Q E hr h=>?_)
 obtain ⟨⟨ls,bs,st,u⟩,⟨v,_,rfl,h1,v2,_,rfl,h2,v3,_,rfl,h3,rfl⟩,hp,k⟩:=h
 obtain ⟨p1,p2,p3⟩:ls.length<=700/\(∀ l∈ls,l.block < bs.length)/\∀ x∈bs,b8 x:=hp
 have h1:cL (cLn CB) K ls v H:=h1
 have nd:=lA.nd
 refine yX (i:=3) (K:=K) (R:=cLn CB) (U:=cLn CB) (S:=cRI CR) (kl:=true) (kr:=true) (Bp.bf 0) 4 5 (fun a b=>Bp.bY ⟨st,bs⟩ a b) rfl nd (ab (R:=cL (cLn CB)) 0 rfl h1) (PX.cast (R:=cL (cLn CB)) (PX.toL (eO (K:=K) (R:=cLn CB) (ab 0 rfl h1) (aS (K:=K) ax) cE)) (ik ls 1)) (a9 (by rw [List.length_drop];omega)) ?_ B.zip (by decide) fun v4 H4 s4 e4=>?_
 ·intro i d f hd hf u t H' s' r1 r2 s0 H0' C cl fp
  exact aQ g3 hr (ad (R:=cLn CB) (d:=d) (ab 4 rfl r1) (ad (R:=cLn CB) (d:=f) (ab 5 rfl r2) (ad (R:=cL cBk) (d:=bs) (ab 1 rfl (Mono.mono s' h2)) (ad (R:=cSt) (d:=st) (ab 2 rfl (Mono.mono s' h3)) ag)))) ⟨p2 d (List.mem_of_getElem? hd),p2 f (List.mem_of_mem_drop (List.mem_of_getElem? hf)),p3⟩
 ·refine ai (P:=cL (cRI CR) K (Vamatk.columnFrom ⟨st,bs⟩ ls)) ?_ (fun v H2 s2 e=>k v H2 (s4.trans s2) e)
  rw [Bp.mw]
  refine PX.cast (R:=cL (cRI CR)) (PX.toL (pZ (R:=cRI CR) (ab (R:=cM (cRI CR)) 3 rfl (cF.toM e4)) (PX.toM (eU (K:=K) (R:=cLn CB) (S:=cRI CR) (Bp.bf 0) 4 Bp.pM rfl nd (PX.cast (R:=cL (cLn CB)) (PX.toL (eO (K:=K) (R:=cLn CB) (ab 0 rfl (Mono.mono s4 h1)) (aS (K:=K) (wM ax)) cE)) (aaV ls)) (a9 (by rw [List.length_drop];omega)) ?_)) ?_)) ?_
  ·intro i d hd t H' s' r s0 H0' C cl fp
   exact jk (d:=(Vamati.atLeast0 (d.height+d.depth),0,0,0,())) g2 (hr.mono (by decide)) (ad (R:=cI) (aQ g1 (hr.mono (by decide)) (ad (R:=cLn CB) (d:=d) (ab 4 rfl r) ag) trivial) (ad (R:=cI) ax (ad (R:=cI) ax (ad (R:=cI) ax ag)))) trivial (fun y H _ ⟨dx,e⟩=>⟨y,dx,rfl,e⟩)
  ·rw [List.length_map,List.length_map,List.length_zip,List.length_drop,List.length_drop]
   exact Nat.le_of_lt (a9 (by omega))
  ·rw [List.drop_one]
end
structure qv (K:PySem.W.Frag)(C:Addr):Prop where
 cl:Cls K C
 page:aA K C "page"
 x:aA K C "x"
 y:aA K C "y"
def stF (t:List Int):List (Str×V):=[("page",.int (t.getD 0 0)),("x",.int (t.getD 1 0)),("y",.int (t.getD 2 0))]
def da (C:Addr):Rp (List Int):=cO C stF
instance {C:Addr}:Mono (da C):=inferInstanceAs (Mono (cO C _))
instance {C:Addr}:Frz (da C):=inferInstanceAs (Frz (cO C _))
section
variable {P:Program}{w:World}{K:PySem.W.Frag}{mg:Str->Option Value}{base:Heap}
theorem i7 {X:Cx}{σ:L2.St}{e:Expr}{pos:Pos}{CT:Addr}{d:List Int}{H:Hp}{f:Str}{n:Int}(i:Nat)(c:Cls X.K CT)(na:aA X.K CT f)(he:PX X σ H e (da CT K d))(hi:(stF d)[i]?=some (f,.int n):=by rfl)(hb:attributeBase e f X.env (eval e X.env)=eval e X.env:=by rfl):
  PX X σ H (.Attribute e f pos) (cI K n):=
 kd c na (fun H1 s1 Q k=>he H1 s1 Q fun v H2 s2 ⟨p,dx,e2,e3⟩=>k v H2 s2 ⟨p,dx,_,.int n,e2,e3,lk (ns:=["page","x","y"]) i rfl (by decide +kernel) hi,rfl⟩) hb
abbrev ab5 (K:PySem.W.Frag)(CT:Addr):Sp:=spI K CT (aC cI (aC cI (aC cI aN))) (fun _=>True) (fun d x H=>∃ dx,H x=some (.ins CT dx (stF [d.1,d.2.1,d.2.2.1])))
theorem adc {C:Addr}(F:gr K mg "Spot" C "Spot.__init__" gK ["self","page","x","y"])(c:qv K C):gz P w K mg base "Spot" C 1 (ab5 K C):=by
 refine F.cal vU (fun vs H Q E h=>?_) (fun f cdv A outer s H vs Q E hr h=>?_)
 ·obtain ⟨x,dx,d,ws,rfl,_,⟨v1,_,rfl,_,v2,_,rfl,_,v3,_,rfl,_,rfl⟩,_⟩:=h
  rfl
 ·obtain ⟨x,dx,⟨a,b,e,u⟩,ws,rfl,hx,⟨v1,_,rfl,h1,v2,_,rfl,h2,v3,_,rfl,h3,rfl⟩,_,k⟩:=h
  have h1:v1=.int a:=h1
  have h2:v2=.int b:=h2
  have h3:v3=.int e:=h3
  subst h1 h2 h3
  refine bt (K:=K) c.cl c.page [] (Ob.start hx) (ay 1) (fun H1 o1 _=>?_) (by simp)
  refine bt (K:=K) c.cl c.x ["page"] o1 (ay 2) (fun H2 o2 _=>?_) (by decide +kernel)
  refine bt (K:=K) c.cl c.y ["page","x"] o2 (ay 3) (fun H3 o3 _=>?_) (by decide +kernel)
  exact bj (k H3 ⟨dx,o3.obj⟩ o3.kp)
def tri3 (t:List Int):List Int:=[t.getD 0 0,t.getD 1 0,t.getD 2 0]
theorem adl {C:Addr}(F:aT K C "told" "Spot.told" gH ["self"])(c:qv K C):az P w K mg base C "told" 1 (spF K (aC (da C) aN) (fun _=>True) (cM cI) (fun d=>tri3 d.1)):=by
 refine F.cal vE len1 (fun f cdv A outer s H vs Q E hr h=>?_)
 obtain ⟨⟨t,u⟩,⟨v,_,rfl,h1,rfl⟩,hp,k⟩:=h
 have h1:da C K t v H:=h1
 exact ai (P:=cM cI K (tri3 t)) (PX.toM (bu (ao (R:=cI) (i7 0 c.cl c.page (ab 0 rfl h1)) (ao (R:=cI) (i7 1 c.cl c.x (ab 0 rfl h1)) (ao (R:=cI) (i7 2 c.cl c.y (ab 0 rfl h1)) aJ))) (by show 3<=sizeLine;decide))) (fun v H2 s2 e=>k v H2 s2 e)
def iW (ls:List Vamatk.Line)(r:Vamati.Row)(a n:Nat):List Int:=Vamatk.baselinesFrom 0 (((ls.zip r).drop a).take n)
def upI (ls:List Vamatk.Line)(r:Vamati.Row)(a:Nat):Nat->Int
 | 0=>0
 | n+1=>upI ls r a n - ((r.getD (a+n) (Bp.bf 0)).width+(r.getD (a+n) (Bp.bf 0)).space)
theorem sv:∀ (l:List (Vamatk.Line×Vamati.Item)) (y:Int) (q:Vamatk.Line×Vamati.Item),Vamatk.baselinesFrom y (l++[q])=Vamatk.baselinesFrom y l++[(l.foldl (fun (z:Int) p=>z - p.2.width - p.2.space) y) - q.1.height]
 | [],y,(a,b)=>rfl
 | (a,b)::l,y,q=>by
  rw [List.cons_append]
  show (y - a.height)::Vamatk.baselinesFrom (y - b.width - b.space) (l++[q])=(y - a.height)::Vamatk.baselinesFrom (y - b.width - b.space) l++_
  rw [sv l]
  rfl
theorem yG (ls:List Vamatk.Line)(r:Vamati.Row)(hl:ls.length=r.length)(a:Nat):∀ n,a+n<=r.length->(((ls.zip r).drop a).take n).foldl (fun (z:Int) p=>z - p.2.width - p.2.space) 0=upI ls r a n
 | 0,_=>by simp [upI]
 | n+1,h=>by
  have ih:=yG ls r hl a n (by omega)
  have hz:n < ((ls.zip r).drop a).length:=by rw [List.length_drop,List.length_zip];omega
  rw [List.take_succ_eq_append_getElem hz,List.foldl_append,ih]
  show upI ls r a n - _ - _=upI ls r a n - _
  have e:(((ls.zip r).drop a)[n]'hz).2=r.getD (a+n) (Bp.bf 0):=by
   rw [List.getElem_drop,List.getElem_zip,List.getD_eq_getElem?_getD,List.getElem?_eq_getElem (by omega)]
   rfl
  rw [e]
  omega
theorem zC (ls:List Vamatk.Line)(r:Vamati.Row)(hl:ls.length=r.length)(a n:Nat)(l:Vamatk.Line)(h:a+n < r.length)(he:ls[a+n]?=some l):iW ls r a (n+1)=iW ls r a n++[upI ls r a n - l.height]:=by
 have hz:n < ((ls.zip r).drop a).length:=by rw [List.length_drop,List.length_zip];omega
 unfold iW
 rw [List.take_succ_eq_append_getElem hz,sv,yG ls r hl a n (by omega)]
 congr 3
 have e:(((ls.zip r).drop a)[n]'hz).1=l:=by
  rw [List.getElem_drop,List.getElem_zip]
  have:=(List.getElem?_eq_some_iff.mp he).2
  exact this
 rw [e]
structure afp (ls:List Vamatk.Line)(r:Vamati.Row)(x:Bp.Sp5):Prop where
 len:ls.length=r.length
 f0:0<=x.first
 fl:x.first<=x.last
 ll:x.last < r.length
 few:r.length<=1000
abbrev aaS (K:PySem.W.Frag)(CB CR CS:Addr):Sp:=spH K (aC (cL (cLn CB)) (aC (cL (cRI CR)) (aC (cSp CS) aN))) (fun d=>afp d.1 d.2.1 d.2.2.1) (fun H d=>cF H cI K (iW d.1 d.2.1 d.2.2.1.first.toNat (d.2.2.1.last.toNat+1 - d.2.2.1.first.toNat)))
theorem sU {CB CR CS:Addr}(F:aW K mg "baselines" gG ["lines","row","span"])(B:Blt mg)(cb:lB K CB)(cr:acU K CR)(cs:qg K CS):Cal P w K mg base "baselines" 1 (aaS K CB CR CS):=by
 refine F.cal np (fun vs H Q E h=>?_) (fun f cdv A outer s H vs Q E hr h=>?_)
 ·obtain ⟨d,⟨v,_,rfl,_,w,_,rfl,_,x,_,rfl,_,rfl⟩,_⟩:=h
  rfl
 obtain ⟨⟨ls,r,x,u⟩,⟨v,_,rfl,h1,v2,_,rfl,h2,v3,_,rfl,h3,rfl⟩,hp,k⟩:=h
 have hp:afp ls r x:=hp
 have h1:cL (cLn CB) K ls v H:=h1
 have h2:cL (cRI CR) K r v2 H:=h2
 have h3:cSp CS K x v3 H:=h3
 have nd:=np.nd
 have l1:=hp.len
 have l2:=hp.f0
 have l3:=hp.fl
 have l4:=hp.ll
 have l5:=hp.few
 refine aF (i:=3) (P:=cF H cI K []) nd rfl (Or.inl rfl) (bu (R:=cI) aJ (Nat.zero_le _)) fun v4 H4 s4 e4=>?_
 obtain ⟨qa,ys,rfl,hq0,hq,hz⟩:=e4
 refine aF (i:=4) (P:=cI K 0) nd rfl (Or.inl rfl) ax fun v5 H5 s5 e5=>?_
 have e5:v5=.int 0:=e5
 subst e5
 have s45:=s4.trans s5
 refine adb (K:=K) (v:=5) (i:=x.first) (j:=x.last+1) PassesOwn.never rfl (db 0 cs.cl cs.first (ab 2 rfl (Mono.mono s45 h3))) (aY (db 1 cs.cl cs.last (ab 2 rfl (Mono.mono s45 h3))) ax) (by omega) (bg (i:=5) nd rfl (Or.inl rfl)) (fun H6 s6=>?_) B.range
 have cnt:(x.last+1 - x.first).toNat=x.last.toNat+1 - x.first.toNat:=by omega
 rw [cnt]
 generalize ea:x.first.toNat=a at *
 have ea':x.first=(a:Int):=by omega
 generalize en:x.last.toNat+1 - a=n at *
 refine ⟨fun t σ' H'=>t<=n/\Same H H'/\∃ zs o5,σ'=[some v,some v2,some v3,some (.ref qa),some (.int (upI ls r a t)),o5]/\H' qa=some (.lst zs)/\All cI K H' zs (iW ls r a t),?_,?_,?_⟩
 ·refine ⟨Nat.zero_le _,s45.trans s6,ys,none,rfl,s6 _ _ (s5 _ _ hq),?_⟩
  have e:iW ls r a 0=[]:=by unfold iW;simp [Vamatk.baselinesFrom]
  rw [e]
  exact hz.mono (s5.trans s6)
 ·rintro t σ' H' ht ⟨_,s7,zs,o5,rfl,hqt,hzt⟩
  have hi:a+t < r.length:=by omega
  have g1:ls[a+t]?=some (ls[a+t]'(by omega)):=List.getElem?_eq_getElem (by omega)
  generalize hl':ls[a+t]'(by omega)=l at g1
  have g2:r[a+t]?=some (r[a+t]'hi):=List.getElem?_eq_getElem hi
  generalize hr':r[a+t]'hi=it at g2
  have ei:x.first+(t:Nat)=((a+t:Nat):Int):=by omega
  rw [ei]
  have hlen:(iW ls r a t).length<=1000:=by
   unfold iW
   rw [Bp.dj,List.length_take,List.length_drop,List.length_zip]
   omega
  refine cw (P:=cI K (upI ls r a t - l.height)) (ab (R:=cV) (K:=K) 3 rfl rfl) (bG (K:=K) (j:=l.height) (ab (R:=cI) 4 rfl rfl) (bQ 3 cb.cl cb.height (aI (K:=K) (R:=cLn CB) (PX.toQ (ab 0 rfl (Mono.mono s7 h1))) (ab (R:=cI) 5 rfl rfl) (al rfl g1)))) hqt (a9 (by rw [hzt.length];omega)) fun v8 H8 s8 e8=>?_
  have s78:=bK (o:=.lst (zs++[v8])) (s7.trans s8) hq0
  refine xx (i:=4) (K:=K) (g:=fun i j=>i - j) nd rfl (Or.inl rfl) aeu rfl (aY (j8 0 cr.cl cr.width (aI (K:=K) (R:=cRI CR) (PX.toQ (ab 1 rfl (Mono.mono s78 h2))) (ab (R:=cI) 5 rfl rfl) (al rfl g2))) (j8 1 cr.cl cr.space (aI (K:=K) (R:=cRI CR) (PX.toQ (ab 1 rfl (Mono.mono s78 h2))) (ab (R:=cI) 5 rfl rfl) (al rfl g2)))) fun H9 s9=>?_
  refine bj ⟨ht,s78.trans s9,zs++[v8],some (.int ((a+t:Nat):Int)),?_,s9 _ _ aj,?_⟩
  ·have eg:r.getD (a+t) (Bp.bf 0)=it:=by rw [List.getD_eq_getElem?_getD,g2];rfl
   show _=[some v,some v2,some v3,some (V.ref qa),some (.int (upI ls r a t - ((r.getD (a+t) (Bp.bf 0)).width+(r.getD (a+t) (Bp.bf 0)).space))),_]
   rw [eg]
   rfl
  ·rw [zC ls r l1 a t l hi g1]
   exact (((hzt.mono s8).put (s8 _ _ hqt)).append (.cons (Frz.frz (R:=cI) (s8 _ _ hqt) e8) .nil)).mono s9
 ·rintro σ' H' ⟨_,s7,zs,o5,rfl,hqt,hzt⟩
  exact ai (P:=cF H cI K (iW ls r a n)) (ab (R:=cF H cI) 3 rfl ⟨qa,zs,rfl,hq0,hqt,hzt⟩) (fun v H9 s9 e9=>k v H9 (s7.trans s9) (by subst ea;subst en;exact e9))
theorem ud (F:aW K mg "display_x" gM ["block","settings"])(N:Nums mg):Cal P w K mg base "display_x" 1 (spF K (aC cBk (aC cSt aN)) (fun d=>b8 d.1/\cC (Vamatk.numbersOf d.1)=false) cI (fun d=>match d.1.body with
  | .display way w _ _=>Vamatk.displayX d.2.1 way w
  | .paragraph _ _=>0)):=by
 refine F.cal nr len2 (fun f cdv A outer s H vs Q E hr h=>?_)
 obtain ⟨⟨b,st,u⟩,⟨v,_,rfl,h1,v2,_,rfl,h2,rfl⟩,hp,k⟩:=h
 obtain ⟨hp,hd⟩:b8 b/\cC (Vamatk.numbersOf b)=false:=hp
 have h1:cT cI K (Vamatk.numbersOf b) v H:=h1
 have h2:cT cI K (qk st) v2 H:=h2
 cases hp.cases with
 | para f row e ne len good fr=>rw [e,Bp.aV] at hd;exact absurd (show decide ((0:Int)=0)=false from hd) (by decide)
 | disp y wd hh dd e wr=>
  have e1:Vamatk.numbersOf b=[b.before,b.stretch,b.shrink,b.cost,1,y,wd,hh,dd]:=by
   have:=congrArg Vamatk.numbersOf e
   rw [Bp.bc] at this
   exact this
  have kk:∀ (z:Int) v H',Same H H'->z=Vamatk.displayX st y wd->cI K z v H'->Q v H':=fun z v H' s e2 h=>k v H' s (by
   rw [e2] at h
   have eb:b.body=.display y wd hh dd:=by rw [e];rfl
   show cI K (match b.body with
    | .display way w _ _=>Vamatk.displayX st way w
    | .paragraph _ _=>0) v H'
   rw [eb]
   exact h)
  rw [e1] at h1
  refine aF (i:=2) (P:=cI K (st.measure - wd)) nr.nd rfl (Or.inl rfl) (bG (aI (K:=K) (R:=cI) (PX.toQT (ab 1 rfl h2)) (aD N.measure) (al (j:=0) rfl rfl)) (aI (K:=K) (R:=cI) (PX.toQT (ab 0 rfl h1)) (aD N.displayWidth) (al (j:=6) rfl rfl))) fun v3 H3 s3 e3=>?_
  have e3:v3=.int (st.measure - wd):=e3
  subst e3
  refine aH (d:=decide (y=0)) (tw (aI (K:=K) (R:=cI) (PX.toQT (ab 0 rfl (Mono.mono s3 h1))) (aD N.wayPlace) (al (j:=5) rfl rfl)) (aD N.left)) (fun hd H4 s4=>?_) (fun hd H4 s4=>?_)
  ·refine ai (P:=cI K 0) ax (fun v H5 s5 e=>kk _ v H5 (s3.trans (s4.trans s5)) ?_ e)
   unfold Vamatk.displayX
   rw [if_pos (of_decide_eq_true hd)]
  ·refine ai (P:=cI K (Vamatk.displayX st y wd)) (k4 (d:=decide (y=1)) (tw (aI (K:=K) (R:=cI) (PX.toQT (ab 0 rfl (Mono.mono (s3.trans s4) h1))) (aD N.wayPlace) (al (j:=5) rfl rfl)) (aD N.centred)) (fun z=>PX.cast (yu ⟨by decide,by decide⟩ (ab (R:=cI) 2 rfl rfl) ax) ?_) (fun z=>PX.cast (ab (R:=cI) 2 rfl rfl) ?_)) (fun v H5 s5 e=>kk _ v H5 (s3.trans (s4.trans s5)) rfl e)
   ·unfold Vamatk.displayX
    rw [if_neg (of_decide_eq_false hd),if_pos (of_decide_eq_true z)]
   ·unfold Vamatk.displayX
    rw [if_neg (of_decide_eq_false hd),if_neg (of_decide_eq_false z)]
abbrev pT (K:PySem.W.Frag):Sp:=spH K (aC (cT cI) (aC aU (aC pI aN))) (fun d=>d.2.1<=d.2.2.1/\d.2.2.1<=2000/\4 < d.1.length) (fun H d=>cF H (cT cI) K (fW d.1 d.2.1 d.2.2.1))
theorem lC (F:aW K mg "items_between" bR ["block","first","last"])(N:Nums mg)(B:Blt mg):Cal P w K mg base "items_between" 1 (pT K):=by
 refine F.cal aP (fun vs H Q E h=>?_) (fun f cdv A outer s H vs Q E hr h=>?_)
 ·obtain ⟨d,⟨v,_,rfl,_,w,_,rfl,_,x,_,rfl,_,rfl⟩,_⟩:=h
  rfl
 obtain ⟨⟨l,a,b,u⟩,⟨v,_,rfl,h1,v2,_,rfl,h2,v3,_,rfl,h3,rfl⟩,hp,k⟩:=h
 obtain ⟨hp1,hp2,hp3⟩:a<=b/\b<=2000/\4 < l.length:=hp
 have h2:cI K (a:Int) v2 H:=h2
 have h3:cI K ((b:Int) - 1) v3 H:=h3
 refine aF (i:=3) aP.nd rfl (Or.inl rfl) (aY (aD (K:=K) N.itemsPlace) (iK (.inr ⟨by decide,by decide⟩) (ab 1 rfl h2) (aD N.itemSize))) fun v4 H4 s4 h4=>?_
 refine aF (i:=4) aP.nd rfl (Or.inl rfl) (aY (aD (K:=K) N.itemsPlace) (iK (.inr ⟨by decide,by decide⟩) (aY (ab 2 rfl (Mono.mono s4 h3)) ax) (aD N.itemSize))) fun v5 H5 s5 h5=>?_
 refine ai (P:=cF H5 (cT cI) K (fW l a b)) (aaO (K:=K) (S:=cT cI) 5 (fun i=>Bp.part l (6+7 * (a+i)) (6+7 * (a+i)+7)) rfl aP.nd (ab 3 rfl (Mono.mono s5 h4)) (ab 4 rfl h5) (aD N.itemSize) (rg7 hp1 hp2) (Nat.lt_of_le_of_lt (by omega:b - a<=2000) (by decide)) ?_ B.range) (fun v H2 s2 ⟨p,xs,e1,n1,e2,z⟩=>k v H2 (s4.trans (s5.trans s2)) ⟨p,xs,e1,(s4.trans s5).free n1,e2,z⟩)
 intro t ht H' s' s0 H0' C cl fp
 have e1:(6+(a:Int) * 7+(t:Nat) * 7)=((6+7 * (a+t):Nat):Int):=by omega
 have e2:(6+(a:Int) * 7+(t:Nat) * 7)+7=((6+7 * (a+t)+7:Nat):Int):=by omega
 refine PX.cast (mD (K:=K) (R:=cI) (ab 0 rfl (Mono.mono (s4.trans (s5.trans s')) h1)) (aS (K:=K) (ab 5 rfl rfl)) (aS (K:=K) (aY (ab 5 rfl rfl) (aD N.itemSize))) ?_) ?_
 ·rintro ⟨q1,q2⟩
  have q1:HT.sIx l.length 0 (some (6+(a:Int) * 7+(t:Nat) * 7))=0:=q1
  have q2:HT.sIx l.length l.length (some (6+(a:Int) * 7+(t:Nat) * 7+7))=l.length:=q2
  rw [lG e1] at q1
  rw [lG e2] at q2
  have hp3':4 < l.length:=hp3
  omega
 ·exact l7 l e1 e2
theorem wF (b s u c k f:Int)(r:Vamati.Row){x y:Nat}(hx:x<=y)(hy:y<=r.length):fW (b::s::u::c::k::f::r.flatMap Vamati.numbersOf) x y=((r.take y).drop x).map Vamati.numbersOf:=by
 unfold fW
 apply List.ext_getElem
 ·simp
  omega
 ·intro i h1 h2
  have hi:x+i < r.length:=by simp at h1;omega
  rw [List.getElem_map,List.getElem_range,List.getElem_map,List.getElem_drop,List.getElem_take]
  rw [<-Bp.l9 r (x+i) (r[x+i]'hi) (List.getElem?_eq_getElem hi)]
  have e1:6+7 * (x+i)=7 * (x+i)+6:=by omega
  have e2:7 * (x+i)+6+7=(7 * (x+i)+7)+6:=by omega
  unfold Bp.part
  rw [e1,e2]
  rfl
def xsB (s:Vamatk.Settings)(l:Vamatk.Line)(b:Vamatk.Block):List Int:=match b.body with
 | .display way w _ _=>[Vamatk.displayX s way w]
 | .paragraph f row=>(List.range (Vamati.slice row l.from_ l.to_).length).map fun k=>(if l.first=true then f else s.indent)+Bp.ahead (fun a=>a.width+a.space) (Vamati.slice row l.from_ l.to_) k
theorem aa8 {st:Vamatk.State}{l:Vamatk.Line}{b:Vamatk.Block}(h:st.blocks[l.block]?=some b):Bp.xsD st l=xsB st.settings l b:=by
 unfold Bp.xsD xsB
 rw [h]
 simp only [Option.map_some]
 cases b.body<;>rfl
structure ae7 (l:Vamatk.Line)(b:Vamatk.Block):Prop where
 bk:b8 b
 ft:l.from_<=l.to_
 to:l.to_ < (Bp.aB b).length
abbrev af2 (K:PySem.W.Frag):Sp:=spF K (aC cBk (aC cSt aN)) (fun d=>b8 d.1/\cC (Vamatk.numbersOf d.1)=false) cI (fun d=>match d.1.body with
  | .display way w _ _=>Vamatk.displayX d.2.1 way w
  | .paragraph _ _=>0)
abbrev afo (K:PySem.W.Frag)(CB:Addr):Sp:=spF K (aC (cLn CB) (aC cBk (aC cSt aN))) (fun d=>ae7 d.1 d.2.1) (cL cI) (fun d=>xsB d.2.2.1 d.1 d.2.1)
theorem wL {CB:Addr}(F:aW K mg "item_xs" jF ["line","block","settings"])(N:Nums mg)(cb:lB K CB)(g0:Cal P w K mg base "is_paragraph" 1 (ie K))(g1:Cal P w K mg base "display_x" 1 (af2 K))(g2:Cal P w K mg base "items_between" 1 (pT K)):Cal P w K mg base "item_xs" 2 (afo K CB):=by
 refine F.cal sy len3 (fun f cdv A outer s H vs Q E hr h=>?_)
 obtain ⟨⟨l,b,st,u⟩,⟨v,_,rfl,h1,v2,_,rfl,h2,v3,_,rfl,h3,rfl⟩,hp,k⟩:=h
 have hp:ae7 l b:=hp
 have h1:cLn CB K l v H:=h1
 have h2:cT cI K (Vamatk.numbersOf b) v2 H:=h2
 have h3:cT cI K (qk st) v3 H:=h3
 have nd:=sy.nd
 refine aH (d:=!cC (Vamatk.numbersOf b)) (bN (bn (aQ g0 hr (ad (R:=cQ cI) (d:=Vamatk.numbersOf b) (PX.toQT (ab 1 rfl h2)) ag) hp.bk.long))) (fun hd H' s'=>?_) (fun hd H' s'=>?_)
 ·have hd:cC (Vamatk.numbersOf b)=false:=by simpa using hd
  refine ai (P:=cL cI K (xsB st l b)) (PX.toL (PX.cast (R:=cF H' cI) (bu (ao (R:=cI) (aQ g1 hr (ad (R:=cBk) (d:=b) (ab 1 rfl (Mono.mono s' h2:cT cI K (Vamatk.numbersOf b) v2 H')) (ad (R:=cSt) (d:=st) (ab 2 rfl (Mono.mono s' h3:cT cI K (qk st) v3 H')) ag)) ⟨hp.bk,hd⟩) aJ) (by show 1<=sizeLine;decide)) ?_)) (fun v H2 s2 e=>k v H2 (s'.trans s2) e)
  cases hp.bk.cases with
  | para f row e ne len good fr=>rw [e,Bp.aV] at hd;exact absurd (show decide ((0:Int)=0)=false from hd) (by decide)
  | disp y wd hh dd e wr=>
   have eb:b.body=.display y wd hh dd:=by rw [e];rfl
   unfold xsB
   simp only [eb]
 ·have hd:cC (Vamatk.numbersOf b)=true:=by simpa using hd
  cases hp.bk.cases with
  | disp y wd hh dd e wr=>rw [e,Bp.bc] at hd;exact absurd (show decide ((1:Int)=0)=true from hd) (by decide)
  | para f row e ne len good fr=>
   have e1:Vamatk.numbersOf b=b.before::b.stretch::b.shrink::b.cost::0::f::row.flatMap Vamati.numbersOf:=by
    have:=congrArg Vamatk.numbersOf e
    rw [Bp.aV] at this
    exact this
   have eb:b.body=.paragraph f row:=by rw [e];rfl
   have hto:l.to_ < row.length:=by
    have:=hp.to
    rw [show Bp.aB b=row.map Bp.size3 by rw [e];rfl,List.length_map] at this
    exact this
   have hft:=hp.ft
   have ex:xsB st l b=(List.range (Vamati.slice row l.from_ l.to_).length).map fun k=>(if l.first=true then f else st.indent)+Bp.ahead (fun a=>a.width+a.space) (Vamati.slice row l.from_ l.to_) k:=by unfold xsB;rw [eb]
   have h2':cT cI K (b.before::b.stretch::b.shrink::b.cost::0::f::row.flatMap Vamati.numbersOf) v2 H':=by rw [<-e1];exact Mono.mono s' h2
   refine aF (i:=3) (P:=cF H' cI K []) nd rfl (Or.inl rfl) (bu (R:=cI) aJ (Nat.zero_le _)) fun v4 H4 s4 e4=>?_
   obtain ⟨qa,ys,rfl,hq0,hq,hz⟩:=e4
   refine aF (i:=4) (P:=cI K (if l.first=true then f else st.indent)) nd rfl (Or.inl rfl) (k4 (d:=l.first) (bn (K:=K) (bQ 6 cb.cl cb.opens (ab 0 rfl (Mono.mono (s'.trans s4) h1)))) (fun z=>PX.cast (aI (K:=K) (R:=cI) (PX.toQT (ab 1 rfl (Mono.mono s4 h2'))) (aD N.firstIndent) (al (j:=5) rfl rfl)) (by rw [if_pos z])) (fun z=>PX.cast (aI (K:=K) (R:=cI) (PX.toQT (ab 2 rfl (Mono.mono (s'.trans s4) h3))) (aD N.indent) (al (j:=1) rfl rfl)) (by rw [if_neg (by rw [z];simp)]))) fun v5 H5 s5 e5=>?_
   have e5:v5=.int (if l.first=true then f else st.indent):=e5
   subst e5
   have s45:=s4.trans s5
   have hq5:H5 qa=some (.lst ys):=s5 _ _ hq
   have hqH:H qa=none:=s'.free hq0
   refine ac1 (K:=K) (R:=cT cI) (as:=(Vamati.slice row l.from_ l.to_).map Vamati.numbersOf) (v:=5) PassesOwn.never rfl (xq g2 hr (ad (R:=cT cI) (ab 1 rfl (Mono.mono s45 h2')) (ad (R:=aU) (d:=l.from_) (bQ 1 cb.cl cb.first (ab 0 rfl (Mono.mono (s'.trans s45) h1))) (ad (R:=pI) (d:=l.to_+1) (PX.imp (bQ 2 cb.cl cb.last (ab 0 rfl (Mono.mono (s'.trans s45) h1)):PX _ _ _ _ (cV K (.int (l.to_:Int)))) fun v H _ e=>?_) ag))) ⟨by show l.from_<=l.to_+1;omega,by show l.to_+1<=2000;omega,by show 4 < (_::_::_::_::_::_).length;simp only [List.length_cons];omega⟩ (wF _ _ _ _ _ _ row (by show l.from_<=l.to_+1;omega) (by show l.to_+1<=row.length;omega))) (bg (i:=5) nd rfl (Or.inl rfl)) (fun H6 li xs s6 n6 q6 z6=>?_)
   ·have e:v=.int (l.to_:Int):=e
    show v=.int (((l.to_+1:Nat):Int) - 1)
    rw [e]
    congr 1
    omega
   have nqa:li≠qa:=fun z=>by rw [z,hq5] at n6;cases n6
   generalize hsl:Vamati.slice row l.from_ l.to_=sl at *
   have hsl':sl.length<=600:=by
    rw [<-hsl,Bp.fJ row l.from_ l.to_ hto]
    omega
   refine ⟨fun i σ' H'=>i<=sl.length/\Same H H'/\H' li=some (.lst xs)/\(∀ u d,u∈xs->cT cI K d u H6->cT cI K d u H')/\∃ zs o5,σ'=[some v,some v2,some v3,some (.ref qa),some (.int ((if l.first=true then f else st.indent)+Bp.ahead (fun a=>a.width+a.space) sl i)),o5]/\H' qa=some (.lst zs)/\All cI K H' zs ((List.range i).map fun k=>(if l.first=true then f else st.indent)+Bp.ahead (fun a=>a.width+a.space) sl k),?_,?_,?_,?_⟩
   ·refine ⟨Nat.zero_le _,(s'.trans s45).trans s6,q6,fun _ _ _ h=>h,ys,none,?_,s6 _ _ hq5,hz.mono (s5.trans s6)⟩
    rw [Bp.wO,Int.add_zero]
    rfl
   ·rintro i σ' H9 ⟨_,_,q9,_⟩
    exact q9
   ·rintro i d uu σ' H9 hd9 hu9 ⟨hi,s9,q9,t9,zs,o5,rfl,hqt,hzt⟩
    obtain ⟨d',hd',rd'⟩:=z6.getV hu9
    rw [hd9] at hd'
    cases hd'
    have hi9:i < sl.length:=by
     have:=(List.getElem?_eq_some_iff.mp hd9).1
     simpa using this
    have gi:sl[i]?=some (sl[i]'hi9):=List.getElem?_eq_getElem hi9
    have ed:d=Vamati.numbersOf (sl[i]'hi9):=by
     rw [List.getElem?_map,gi] at hd9
     exact (Option.some.inj hd9).symm
    subst ed
    have rd9:=t9 uu _ (List.mem_of_getElem? hu9) rd'
    refine cw (P:=cI K _) (ab (R:=cV) (K:=K) 3 rfl rfl) (ab (R:=cI) 4 rfl rfl) hqt (a9 (by rw [hzt.length,List.length_map,List.length_range];omega)) fun v10 H10 s10 e10=>?_
    have hq10:H10 qa=some (.lst zs):=s10 _ _ hqt
    have rd10:cT cI K (Vamati.numbersOf (sl[i]'hi9)) uu (upd H10 qa (.lst (zs++[v10]))):=Frz.frz hq10 (Mono.mono s10 rd9)
    refine xx (i:=4) (K:=K) (g:=fun i j=>i+j) nd rfl (Or.inl rfl) aat rfl (aY (aI (K:=K) (R:=cI) (PX.toQT (ab 5 rfl rd10)) (aD N.widthPlace) (al (j:=0) rfl rfl)) (aI (K:=K) (R:=cI) (PX.toQT (ab 5 rfl rd10)) (aD N.spacePlace) (al (j:=3) rfl rfl))) fun H11 s11=>?_
    refine bj ⟨hi9,(bK (s9.trans s10) hqH).trans s11,s11 _ _ (by rw [am nqa];exact s10 _ _ q9),fun u d hu h=>Mono.mono s11 (Frz.frz hq10 (Mono.mono s10 (t9 u d hu h))),zs++[v10],some uu,?_,s11 _ _ aj,?_⟩
    ·have ez:(if l.first=true then f else st.indent)+Bp.ahead (fun a=>a.width+a.space) sl (i+1)=(if l.first=true then f else st.indent)+Bp.ahead (fun a=>a.width+a.space) sl i+((sl[i]'hi9).width+(sl[i]'hi9).space):=by
      rw [Bp.bZ _ sl i _ gi,Int.add_assoc]
     rw [ez]
     rfl
    ·rw [List.range_succ,List.map_append]
     exact (((hzt.mono s10).put hq10).append (.cons (Frz.frz (R:=cI) hq10 e10) .nil)).mono s11
   ·rintro σ' H9 ⟨_,s9,q9,t9,zs,o5,rfl,hqt,hzt⟩
    rw [List.length_map] at hzt
    refine ai (P:=cL cI K (xsB st l b)) (ab 3 rfl ⟨qa,zs,rfl,SqL.of hqt,?_⟩) (fun v H2 s2 e=>k v H2 (s9.trans s2) e)
    rw [ex]
    exact hzt
theorem zM {CT:Addr}(F:aW K mg "covers" lc ["spot","size","x","y"])(N:Nums mg)(ct:qv K CT):Cal P w K mg base "covers" 1 (spF K (aC (da CT) (aC (cT cI) (aC cI (aC cI aN)))) (fun d=>d.2.1.length=3) cB (fun d=>Bp.eF d.1 d.2.1 d.2.2.1 d.2.2.2.1)):=by
 refine F.cal abE len4 (fun f cdv A outer s H vs Q E hr h=>?_)
 obtain ⟨⟨t,z,x,y,u⟩,⟨v,_,rfl,h1,v2,_,rfl,h2,v3,_,rfl,h3,v4,_,rfl,h4,rfl⟩,hp,k⟩:=h
 have hp:z.length=3:=hp
 have h1:da CT K t v H:=h1
 have h2:cT cI K z v2 H:=h2
 have h3:cI K x v3 H:=h3
 have h4:cI K y v4 H:=h4
 have kk:∀ (b:Bool) v H',Same H H'->b=Bp.eF t z x y->cB K b v H'->Q v H':=fun b v H' s e h=>k v H' s (by rw [e] at h;exact h)
 refine aH (d:=!(decide (t.getD 1 0<=x)&&decide (x < t.getD 1 0+z.getD 0 0))) (bN (sK kO vi (i7 1 ct.cl ct.x (ab 0 rfl h1)) (ab (R:=cI) 2 rfl h3) (aY (i7 1 ct.cl ct.x (ab 0 rfl h1)) (aI (K:=K) (R:=cI) (PX.toQT (ab 1 rfl h2)) (aD N.widthPlace) (al (j:=0) rfl (gd (by omega))))))) (fun hd H' s'=>?_) (fun hd H' s'=>?_)
 ·refine ai (P:=cB K false) qe (fun v H2 s2 e=>kk _ v H2 (s'.trans s2) ?_ e)
  unfold Bp.eF
  rw [if_pos]
  intro z'
  rw [decide_eq_true z'.1,decide_eq_true z'.2] at hd
  cases hd
 ·refine ai (P:=cB K _) (lw kO vi (bG (i7 2 ct.cl ct.y (ab 0 rfl (Mono.mono s' h1))) (aI (K:=K) (R:=cI) (PX.toQT (ab 1 rfl (Mono.mono s' h2))) (aD N.depthPlace) (al (j:=2) rfl (gd (by omega))))) (ab (R:=cI) 3 rfl h4) (aY (i7 2 ct.cl ct.y (ab 0 rfl (Mono.mono s' h1))) (aI (K:=K) (R:=cI) (PX.toQT (ab 1 rfl (Mono.mono s' h2))) (aD N.heightPlace) (al (j:=1) rfl (gd (by omega)))))) (fun v H2 s2 e=>kk _ v H2 (s'.trans s2) ?_ e)
  unfold Bp.eF
  rw [if_neg]
  intro z'
  simp only [Bool.not_eq_false',Bool.and_eq_true,decide_eq_true_iff] at hd
  exact z' hd
end
def ofB (j:Nat)(S:List Vamatk.Spot):List (List Int):=(S.filter fun p=>decide (p.block=j)).map Bp.cy
structure adu (H0:Hp)(q:Addr)(sa:List Addr):Prop where
 q0:H0 q=none
 a0:∀ a∈sa,H0 a=none/\a≠q
 nd:sa.Nodup
structure iU (K:PySem.W.Frag)(CT q:Addr)(sa:List Addr)(S:List Vamatk.Spot)(H0 H:Hp):Prop where
 same:Same H0 H
 top:H q=some (.lst (sa.map V.ref))
 at_:∀ (j:Nat) (a:Addr),sa[j]?=some a->∃ zs,H a=some (.lst zs)/\All (da CT) K H zs (ofB j S)
section
variable {P:Program}{w:World}{K:PySem.W.Frag}{mg:Str->Option Value}{base:Heap}
theorem iU.later {CT q:Addr}{sa:List Addr}{S:List Vamatk.Spot}{H0 H H':Hp}(h:iU K CT q sa S H0 H)(s:Same H H'):iU K CT q sa S H0 H':=⟨h.same.trans s,s _ _ h.top,fun j a e=>let ⟨zs,e1,e2⟩:=h.at_ j a e;⟨zs,s _ _ e1,e2.mono s⟩⟩
theorem iU.put {CT q:Addr}{sa:List Addr}{S N:List Vamatk.Spot}{H0 H:Hp}{o:Nat}{a:Addr}{zs ws:List V}(st:adu H0 q sa)(h:iU K CT q sa S H0 H)(ho:sa[o]?=some a)(hz:H a=some (.lst zs))(hza:All (da CT) K H zs (ofB o S))(hw:All (da CT) K H ws (N.map Bp.cy))(hN:∀ p∈N,p.block=o):
  iU K CT q sa (S++N) H0 (upd H a (.lst (zs++ws))):=by
 have ha:=st.a0 a (List.mem_of_getElem? ho)
 refine ⟨bK h.same ha.1,by rw [am (Ne.symm ha.2)];exact h.top,fun j b e=>?_⟩
 unfold ofB
 rw [List.filter_append]
 by_cases hj:j=o
 ·subst hj
  rw [ho] at e
  cases e
  refine ⟨zs++ws,aj,?_⟩
  rw [List.filter_eq_self.mpr fun p hp=>decide_eq_true (hN p hp),List.map_append]
  exact (hza.put hz).append (hw.put hz)
 ·have hba:b≠a:=fun z=>by
   subst z
   exact hj (adt st.nd e ho)
  obtain ⟨ys,e1,e2⟩:=h.at_ j b e
  refine ⟨ys,by rw [am hba];exact e1,?_⟩
  have fN:N.filter (fun p=>decide (p.block=j))=[]:=List.filter_eq_nil_iff.mpr fun p hp=>by
   rw [hN p hp]
   simpa using fun z=>hj z.symm
  rw [fN,List.append_nil]
  exact e2.put hz
theorem acp:∀ {acc:List V} {α:Type} {R:Rp α} {as:List (List α)} {H:Hp},All (cM R) K H acc as->∃ sa:List Addr,acc=sa.map V.ref:=by
 intro acc α R as H h
 unfold All at h
 induction h with
 | nil=>exact ⟨[],rfl⟩
 | cons r t ih=>
  obtain ⟨p,xs,e,_⟩:=r
  obtain ⟨sa,e2⟩:=ih
  exact ⟨p::sa,by rw [e,e2];rfl⟩
theorem zE {CT:Addr}{bs:List Vamatk.Block}{v:V}{H0 H:Hp}(h:cG H0 (da CT) K (bs.map fun _=>[]) v H)(s:Same H0 H):∃ q sa,v=.ref q/\sa.length=bs.length/\adu H0 q sa/\iU K CT q sa [] H0 H:=by
 obtain ⟨q,acc,e,n,hq,hz,nd,hu⟩:=h
 obtain ⟨sa,e2⟩:=acp hz
 subst e2
 have hl:=hz.length
 rw [List.length_map,List.length_map] at hl
 refine ⟨q,sa,e,hl,⟨n,fun a ha=>?_,?_⟩,s,hq,fun j a ha=>?_⟩
 ·have:=hu (.ref a) (List.mem_map.mpr ⟨a,ha,rfl⟩)
  exact ⟨this.2 a rfl,fun z=>this.1 (by rw [z])⟩
 ·have inj:∀ (l:List Addr),(l.map V.ref).Nodup->l.Nodup:=by
   intro l
   induction l with
   | nil=>intro _;exact List.nodup_nil
   | cons a l ih=>
    intro h
    rw [List.map_cons] at h
    obtain ⟨h1,h2⟩:=List.nodup_cons.mp h
    exact List.nodup_cons.mpr ⟨fun m=>h1 (List.mem_map.mpr ⟨a,m,rfl⟩),ih h2⟩
  exact inj sa nd
 ·obtain ⟨d,hd,p,xs,e1,e2,e3⟩:=hz.getV (i:=j) (x:=.ref a) (by rw [List.getElem?_map,ha];rfl)
  cases e1
  refine ⟨xs,e2,?_⟩
  have ed:d=[]:=by
   rw [List.getElem?_map] at hd
   cases e:bs[j]? with
   | none=>rw [e] at hd;cases hd
   | some b=>rw [e] at hd;exact (Option.some.inj hd).symm
  subst ed
  exact e3
def jb (st:Vamatk.State):List (List (List Int)):=(List.range st.blocks.length).map fun j=>(Bp.spB st j).map Bp.cy
theorem iU.fin {CT q:Addr}{sa:List Addr}{st:Vamatk.State}{H0 H:Hp}(h:iU K CT q sa (Vamatk.allSpots st) H0 H)(hl:sa.length=st.blocks.length):cL (cM (da CT)) K (jb st) (.ref q) H:=by
 refine ⟨q,_,rfl,SqL.of h.top,?_⟩
 have key:∀ (l:List Addr) (k:Nat),(∀ j a,l[j]?=some a->sa[k+j]?=some a)->All (cM (da CT)) K H (l.map V.ref) ((List.range' k l.length).map fun j=>(Bp.spB st j).map Bp.cy):=by
  intro l
  induction l with
  | nil=>intro k _;exact .nil
  | cons a l ih=>
   intro k hk
   rw [List.map_cons,List.length_cons,List.range'_succ,List.map_cons]
   refine .cons ?_ (ih (k+1) fun j b hb=>by
    have:=hk (j+1) b hb
    rw [show k+1+j=k+(j+1) by omega]
    exact this)
   obtain ⟨zs,e1,e2⟩:=h.at_ k a (hk 0 a rfl)
   exact ⟨a,zs,rfl,e1,e2⟩
 have:=key sa 0 fun j a ha=>by rw [Nat.zero_add];exact ha
 rw [<-List.range_eq_range',hl] at this
 exact this
theorem xk {α β γ:Type}{L:List α}{i:Nat}{x:α}(f:α->List β)(h:L[i]?=some x){S:γ->List β}{Z:List γ}(e:f x=Z.flatMap S)(t:Nat):((L.take i).flatMap f++(Z.take t).flatMap S).Sublist (L.flatMap f):=by
 obtain ⟨hi,ex⟩:=List.getElem?_eq_some_iff.mp h
 have e1:L=L.take i++x::L.drop (i+1):=by
  have:=List.take_append_drop i L
  rw [List.drop_eq_getElem_cons hi,ex] at this
  exact this.symm
 have e2:L.flatMap f=(L.take i).flatMap f++((Z.take t).flatMap S++((Z.drop t).flatMap S++(L.drop (i+1)).flatMap f)):=by
  have e3:L.flatMap f=(L.take i++x::L.drop (i+1)).flatMap f:=congrArg (List.flatMap f) e1
  have e4:Z.flatMap S=(Z.take t).flatMap S++(Z.drop t).flatMap S:=by rw [<-List.flatMap_append,List.take_append_drop]
  rw [e3,List.flatMap_append,List.flatMap_cons,e,e4,List.append_assoc]
 rw [e2]
 exact List.Sublist.append (List.Sublist.refl _) (List.sublist_append_left _ _)
structure afe (ls:List Vamatk.Line)(r:Vamati.Row)(pgs:List Bp.Sp5)(bs:List Vamatk.Block)(s:Vamatk.Settings):Prop where
 so:Bp.Sound ⟨s,bs⟩
 ls:ls=Vamatk.allLines ⟨s,bs⟩
 r:r=Bp.eE ⟨s,bs⟩
 pgs:pgs=Bp.bC (Bp.eE ⟨s,bs⟩) (Vamatk.pageMeasure s)
abbrev xY (K:PySem.W.Frag)(CB CR CS CT:Addr):Sp:=spF K (aC (cL (cLn CB)) (aC (cL (cRI CR)) (aC (cL (cSp CS)) (aC (cL cBk) (aC cSt aN))))) (fun d=>afe d.1 d.2.1 d.2.2.1 d.2.2.2.1 d.2.2.2.2.1) (cL (cM (da CT))) (fun d=>jb ⟨d.2.2.2.2.1,d.2.2.2.1⟩)
theorem PX.vix {X:Cx}{σ:L2.St}{H0:Hp}{a b:Expr}{pos:Pos}{q p:Addr}{sa:List Addr}{i:Int}{j:Nat}(ha:PX X σ H0 a (cV X.K (.ref q)))(hq:H0 q=some (.lst (sa.map V.ref)))(hb:PX X σ H0 b (cI X.K i))(e:i=(j:Int))(hj:sa[j]?=some p)(hs:oI b:=by intro _ _;rfl):PX X σ H0 (.Subscript a b pos) (cV X.K (.ref p)):=by
 refine aaB (R:=cV) (as:=sa.map V.ref) (fun H s Q k=>ha H s Q fun v H1 s1 e1=>k v H1 s1 (.inl ⟨q,sa.map V.ref,e1,SqL.of (s1 _ _ (s _ _ hq)),?_⟩)) hb (al e (by rw [List.getElem?_map,hj];rfl)) hs
 generalize sa.map V.ref=l
 unfold All
 induction l with
 | nil=>exact .nil
 | cons x l ih=>exact .cons rfl ih
theorem rA {CB CR CS CT:Addr}(F:aW K mg "item_spots" fM ["lines","row","pages","blocks","settings"])(B:Blt mg)(cb:lB K CB)(cs:qg K CS)(g1:Cal P w K mg base "baselines" 1 (aaS K CB CR CS))(g2:Cal P w K mg base "item_xs" 2 (afo K CB))(g3:gz P w K mg base "Spot" CT 1 (ab5 K CT)):Cal P w K mg base "item_spots" 3 (xY K CB CR CS CT):=by
 refine F.cal kY len5 (fun f cdv A outer s H vs Q E hr h=>?_)
 obtain ⟨⟨ls,r,pgs,bs,s',u⟩,⟨v,_,rfl,h1,v2,_,rfl,h2,v3,_,rfl,h3,v4,_,rfl,h4,v5,_,rfl,h5,rfl⟩,hp,k⟩:=h
 have hp:afe ls r pgs bs s':=hp
 obtain ⟨so,els,er,epg⟩:=hp
 generalize est:(⟨s',bs⟩:Vamatk.State)=st at *
 have ebs:st.blocks=bs:=by rw [<-est]
 have ess:st.settings=s':=by rw [<-est]
 have h1:cL (cLn CB) K ls v H:=h1
 have h2:cL (cRI CR) K r v2 H:=h2
 have h4:cL cBk K bs v4 H:=h4
 have h5:cSt K s' v5 H:=h5
 have nd:=kY.nd
 obtain ⟨lp,xps,rfl,qp,zp⟩:=(show cL (cSp CS) K pgs v3 H from h3)
 have hnb:bs.length<=60:=by rw [<-ebs];exact so.many
 refine zF (K:=K) (R:=da CT) (S:=cBk) (i:=5) 12 (fun _=>[]) rfl nd (ab 3 rfl h4) (a9 (by omega)) ?_ fun vq H6 s6 e6=>?_
 ·intro i d hd t H' s' r s0 H0' C cl fp
  exact bu (R:=da CT) aJ (Nat.zero_le _)
 obtain ⟨q,sa,rfl,hsl,sst,sat⟩:=zE e6 s6
 refine kN (K:=K) (l:=lp) (xs:=xps) (i1:=6) (i2:=7) PassesOwn.never rfl (ay 2) (s6.seq qp) (jd rfl (bE (bg (i:=6) nd rfl (Or.inr rfl)) (bE (bg (i:=7) nd rfl (Or.inl rfl)) gN))) (fun H7 s7=>?_) B.enum
 have hbr:=Bp.best_breaking (Bp.eE st) (Vamatk.pageMeasure s')
 have hcl:(Bp.eE st).length=(Vamatk.allLines st).length:=by unfold Bp.eE;rw [Bp.bI]
 have hc1k:(Bp.eE st).length<=1000:=by have:=Bp.bx so;omega
 have epl:Vamatk.pagesOf st=Vamati.linesOf 0 (Vamati.bestOf (Bp.eE st) (Vamatk.pageMeasure s')).ends:=by rw [<-ess];rfl
 have hlenp:xps.length=(Vamatk.pagesOf st).length:=by
  rw [zp.length,epg,epl]
  unfold Bp.bC
  rw [List.length_map]
 refine ⟨fun i σ' H'=>i<=xps.length/\(∃ o6 o7 o8 o9 o10 o11,σ'=[some v,some v2,some (.ref lp),some v4,some v5,some (.ref q),o6,o7,o8,o9,o10,o11,none,none])/\iU K CT q sa (((Vamatk.pagesOf st).zipIdx.take i).flatMap (Bp.eQ st)) H H',?_,?_,?_,?_⟩
 ·exact ⟨Nat.zero_le _,⟨none,none,none,none,none,none,rfl⟩,sat.later s7⟩
 ·rintro i σ' H' ⟨_,_,at'⟩
  exact at'.same.seq qp
 ·rintro i uu σ' H' hu ⟨hi,⟨o6,o7,o8,o9,o10,o11,rfl⟩,at1⟩ H8 s8 _
  obtain ⟨x,hx,rx⟩:=zp.getV hu
  obtain ⟨p,hpg,rfl⟩:∃ p,(Vamatk.pagesOf st)[i]?=some p/\x=Bp.ji (Bp.eE st) (Vamatk.pageMeasure s') p:=by
   rw [epg] at hx
   unfold Bp.bC at hx
   rw [<-epl,List.getElem?_map] at hx
   cases e:(Vamatk.pagesOf st)[i]? with
   | none=>rw [e] at hx;cases hx
   | some p=>rw [e] at hx;exact ⟨p,rfl,(Option.some.inj hx).symm⟩
  obtain ⟨_,pq2,pq3,_⟩:=Bp.kG (Bp.eE st) _ 0 hbr p (by rw [<-epl];exact List.mem_of_getElem? hpg)
  have at8:=at1.later s8
  have rx8:=(Mono.mono at8.same rx:cSp CS K _ uu H8)
  have h18:cL (cLn CB) K ls v H8:=Mono.mono at8.same h1
  refine aF (i:=8) (P:=cF H8 (cLn CB) K (Bp.eG ls p)) nd rfl (Or.inl rfl) (PX.cast (R:=cF H8 (cLn CB)) (eO (K:=K) (R:=cLn CB) (ab 0 rfl h18) (aS (K:=K) (db 0 cs.cl cs.first (ab 7 rfl rx8))) (aS (K:=K) (aY (db 1 cs.cl cs.last (ab 7 rfl rx8)) ax))) (l7 ls (a:=p.1) (b:=p.2+1) rfl (by show (p.2:Int)+1=((p.2+1:Nat):Int);omega))) fun v9 H9 s9 e9=>?_
  obtain ⟨lo,xo,rfl,no,qo,zo⟩:=e9
  have at9:=at8.later s9
  have rx9:=(Mono.mono s9 rx8:cSp CS K _ uu H9)
  have hll:ls.length=r.length:=by rw [els,er,hcl]
  have hbase:iW ls r p.1 (p.2+1 - p.1)=Bp.dG st p:=by
   unfold iW Bp.dG Bp.eG Bp.oO
   rw [els,er,List.drop_take]
  have hpl:(Bp.eG ls p).length=p.2+1 - p.1:=by
   unfold Bp.eG
   rw [List.length_drop,List.length_take,els]
   omega
  have hbl:(Bp.dG st p).length=p.2+1 - p.1:=by
   rw [<-Bp.kD,<-els,hpl]
  have hxo:xo.length=p.2+1 - p.1:=by rw [zo.length,hpl]
  refine acF (K:=K) (S:=cI) (l:=lo) (xs:=xo) (bs:=Bp.dG st p) (i1:=9) (i2:=10) PassesOwn.never rfl (ay 8) qo (xq g1 (hr.mono (by decide)) (ad (R:=cL (cLn CB)) (d:=ls) (ab 0 rfl (Mono.mono s9 h18)) (ad (R:=cL (cRI CR)) (d:=r) (ab 1 rfl (Mono.mono at9.same h2)) (ad (R:=cSp CS) (ab 7 rfl rx9) ag))) ⟨hll,?_,?_,?_,?_⟩ hbase) (by rw [hxo,hbl]) (jd rfl (bE (bg (i:=9) nd rfl (Or.inl rfl)) (bE (bg (i:=10) nd rfl (Or.inr rfl)) gN))) (fun H10 l' ys s10 n10 q10 z10=>?_) B.zip
  ·show (0:Int)<=(p.1:Int)
   omega
  ·show (p.1:Int)<=(p.2:Int)
   omega
  ·show (p.2:Int) < (r.length:Int)
   rw [er]
   omega
  ·show r.length<=1000
   rw [er]
   exact hc1k
  have nlo:∀ a∈sa,lo≠a:=fun a ha z=>by
   obtain ⟨j,hj,ej⟩:=List.getElem_of_mem ha
   obtain ⟨zs,e1,_⟩:=at8.at_ j a (by rw [List.getElem?_eq_getElem hj,ej])
   rw [z,e1] at no
   cases no
  have nl':∀ a∈sa,l'≠a:=fun a ha z=>by
   obtain ⟨j,hj,ej⟩:=List.getElem_of_mem ha
   obtain ⟨zs,e1,_⟩:=at9.at_ j a (by rw [List.getElem?_eq_getElem hj,ej])
   rw [z,e1] at n10
   cases n10
  refine ⟨fun t σ' H'=>t<=xo.length/\(∃ o9 o10 o11,σ'=[some v,some v2,some (.ref lp),some v4,some v5,some (.ref q),some (.int (i:Int)),some uu,some (.ref lo),o9,o10,o11,none,none])/\iU K CT q sa (((Vamatk.pagesOf st).zipIdx.take i).flatMap (Bp.eQ st)++(((Bp.eG ls p).zip (Bp.dG st p)).take t).flatMap fun z=>Vamatk.lineItems st z.1 i z.2) H H'/\H' lo=some (.lst xo)/\H' l'=some (.lst ys)/\All (cLn CB) K H' xo (Bp.eG ls p)/\All cI K H' ys (Bp.dG st p),?_,?_,?_,?_⟩
  ·refine ⟨Nat.zero_le _,⟨_,_,_,rfl⟩,?_,s10 _ _ qo,q10,zo.mono s10,z10⟩
   rw [List.take_zero,List.flatMap_nil,List.append_nil]
   exact at9.later s10
  ·rintro t σ' H' ⟨_,_,_,a1,a2,_⟩
   exact ⟨a1,a2⟩
  ·rintro t fy uv uw σ' H11 hfy huv huw ⟨ht,⟨o9,o10,o11,rfl⟩,at11,qlo,ql',zl11,zy11⟩ H12 s12 _
   obtain ⟨l,hl,rl⟩:=zl11.getV huv
   obtain ⟨y,hy,ry⟩:=zy11.getV huw
   rw [hfy] at hy
   cases hy
   have ry:uw=.int fy:=ry
   subst ry
   have at12:=at11.later s12
   have rl12:cLn CB K l uv H12:=Mono.mono s12 rl
   have hlm:l∈Vamatk.allLines st:=by
    have:=List.mem_of_getElem? hl
    rw [els] at this
    exact List.mem_of_mem_take (List.mem_of_mem_drop this)
   have lok:=Bp.gP so l hlm
   have hblk:bs[l.block]?=some (bs[l.block]'(by rw [<-ebs];exact lok.blk)):=List.getElem?_eq_getElem _
   generalize ebk:bs[l.block]'(by rw [<-ebs];exact lok.blk)=bb at hblk
   have hblk':st.blocks[l.block]?=some bb:=by rw [ebs];exact hblk
   have bko:b8 bb:=b8.of so (List.mem_of_getElem? hblk')
   have hto:l.to_ < (Bp.aB bb).length:=by
    have:=lok.to
    rw [hblk'] at this
    exact this
   refine aF (i:=11) (P:=cL cI K (Bp.xsD st l)) nd rfl (Or.inl rfl) (aQ g2 hr (ad (R:=cLn CB) (d:=l) (ab 9 rfl rl12) (ad (R:=cBk) (d:=bb) (aI (K:=K) (R:=cBk) (i:=(l.block:Int)) (PX.toQ (ab 3 rfl (Mono.mono at12.same h4))) (bQ 0 cb.cl cb.owner (ab 9 rfl rl12)) (al rfl hblk)) (ad (R:=cSt) (d:=s') (ab 4 rfl (Mono.mono at12.same h5)) ag))) ⟨bko,lok.ft,hto⟩ (by rw [aa8 hblk',ess])) fun v13 H13 s13 e13=>?_
   have at13:=at12.later s13
   have hsa:sa[l.block]?=some (sa[l.block]'(by rw [hsl,<-ebs];exact lok.blk)):=List.getElem?_eq_getElem _
   generalize esa:sa[l.block]'(by rw [hsl,<-ebs];exact lok.blk)=aa at hsa
   obtain ⟨zs,ez1,ez2⟩:=at13.at_ l.block aa hsa
   have hzlen:zs.length+(Bp.xsD st l).length<=2000:=by
    have e1:=ez2.length
    have hk:=Bp.jZ lok (st:=st) i fy
    have:(Bp.xsD st l).length<=600:=by
     rw [aa8 hblk']
     unfold xsB
     cases hb:bb.body with
     | display way w _ _=>simp
     | paragraph f row=>
      simp only [List.length_map,List.length_range]
      have hrow:row.length<=600:=by
       have:=bko.few
       unfold Vamatk.itemCount at this
       rw [hb] at this
       exact this
      have:row.length=(Bp.aB bb).length:=by unfold Bp.aB;rw [hb];simp
      rw [Bp.fJ row l.from_ l.to_ (by omega)]
      omega
    have e2:(ofB l.block (((Vamatk.pagesOf st).zipIdx.take i).flatMap (Bp.eQ st)++(((Bp.eG ls p).zip (Bp.dG st p)).take t).flatMap fun z=>Vamatk.lineItems st z.1 i z.2)).length<=1000:=by
     have hpi:(Vamatk.pagesOf st).zipIdx[i]?=some (p,i):=by rw [List.getElem?_zipIdx,hpg];simp
     have sub:=xk (Bp.eQ st) hpi (S:=fun z:Vamatk.Line×Int=>Vamatk.lineItems st z.1 i z.2) (Z:=(Bp.eG (Vamatk.allLines st) p).zip (Bp.dG st p)) rfl t
     rw [<-Bp.je,<-els] at sub
     have le:=(sub.filter fun p=>decide (p.block=l.block)).length_le
     have e3:=Bp.io so hblk'
     unfold Bp.spB at e3
     unfold ofB
     rw [List.length_map]
     have e4:(Bp.aB bb).length<=600:=by
      unfold Bp.aB
      cases hb:bb.body with
      | display way w _ _=>simp
      | paragraph f row=>
       simp only [List.length_map]
       have:=bko.few
       unfold Vamatk.itemCount at this
       rw [hb] at this
       exact this
     omega
    omega
   refine eJ (pa:=aa) (xs:=zs) (Pz:=fun ws H=>All (da CT) K H ws ((Bp.xsD st l).map fun x=>[(i:Int),x,fy])) (PX.vix (p:=aa) (ay 5) at13.top (bQ 0 cb.cl cb.owner (ab 9 rfl (Mono.mono s13 rl12)):PX _ _ _ _ (cV K (.int (l.block:Int)))) rfl hsa) (PX.imp (eU (K:=K) (R:=cI) (S:=da CT) [] 13 (fun x=>[(i:Int),x,fy]) rfl nd (ab 11 rfl e13) (a9 (by omega)) ?_) fun v H _ ⟨p,ws,e1,_,e2,e3⟩=>⟨p,ws,e1,e2,e3⟩) ez1 (fun ws H' s' zz=>Nat.le_of_lt (a9 (by rw [zz.length,List.length_map];omega))) (fun ws H14 s14 zz=>?_)
   ·intro j d hd t H9 s9 r s0 H0' C cl fp
    exact jk (d:=((i:Int),d,fy,())) g3 (hr.mono (by decide)) (ad (R:=cI) (ab 6 rfl rfl) (ad (R:=cI) (ab 13 rfl r) (ad (R:=cI) (ab 10 rfl rfl) ag))) trivial (fun y H _ ⟨dx,e⟩=>⟨y,dx,rfl,e⟩)
   ·have at14:=at13.later s14
    have hz14:H14 aa=some (.lst zs):=s14 _ _ ez1
    have haa:=List.mem_of_getElem? hsa
    have ht':t < xo.length:=(List.getElem?_eq_some_iff.mp huv).1
    have hzi:((Bp.eG ls p).zip (Bp.dG st p))[t]?=some (l,fy):=by rw [List.getElem?_zip_eq_some];exact ⟨hl,hfy⟩
    refine bj ⟨ht',⟨_,_,_,rfl⟩,?_,by rw [am (nlo aa haa)];exact s14 _ _ (s13 _ _ (s12 _ _ qlo)),by rw [am (nl' aa haa)];exact s14 _ _ (s13 _ _ (s12 _ _ ql')),(zl11.mono (s12.trans (s13.trans s14))).put hz14,(zy11.mono (s12.trans (s13.trans s14))).put hz14⟩
    obtain ⟨hti,eti⟩:=List.getElem?_eq_some_iff.mp hzi
    rw [List.take_succ_eq_append_getElem hti,eti,List.flatMap_append,List.flatMap_cons,List.flatMap_nil,List.append_nil,<-List.append_assoc]
    refine iU.put sst at14 hsa hz14 (ez2.mono s14) ?_ (Bp.on i fy)
    rw [Bp.jZ lok]
    exact zz
  ·rintro σ' H11 ⟨_,⟨o9,o10,o11,rfl⟩,at11,_⟩
   have hi':=(List.getElem?_eq_some_iff.mp hu).1
   refine bj ⟨hi',⟨_,_,_,_,_,_,rfl⟩,?_⟩
   have hzl:((Bp.eG ls p).zip (Bp.dG st p)).length=xo.length:=by rw [List.length_zip,hpl,hbl,hxo];omega
   rw [<-hzl,List.take_length] at at11
   have hpi:(Vamatk.pagesOf st).zipIdx[i]?=some (p,i):=by rw [List.getElem?_zipIdx,hpg];simp
   obtain ⟨hii,eii⟩:=List.getElem?_eq_some_iff.mp hpi
   rw [List.take_succ_eq_append_getElem hii,eii,List.flatMap_append,List.flatMap_cons,List.flatMap_nil,List.append_nil]
   unfold Bp.eQ at at11 ⊢
   rw [els] at at11
   exact at11
 ·rintro σ' H' ⟨_,⟨o6,o7,o8,o9,o10,o11,rfl⟩,at'⟩
  have ez:(Vamatk.pagesOf st).zipIdx.length=xps.length:=by rw [List.length_zipIdx,hlenp]
  rw [<-ez,List.take_length,<-Bp.je] at at'
  exact ai (P:=cL (cM (da CT)) K (jb st)) (ab 5 rfl (at'.fin (by rw [hsl,ebs]))) (fun v H2 s2 e=>k v H2 (at'.same.trans s2) (by rw [<-est] at e;exact e))
end
section
variable {X:Cx}{σ:L2.St}{H0 H:Hp}{e:Expr}{pos p p2 pos':Pos}{K:PySem.W.Frag}{D:Ends}{rest:List Stmt}{x C dx:Addr}{fl:List (Str×V)}{f:Str}{P:VK}{α:Type}{R:Rp α}
theorem oR (c:Cls X.K C)(n:aA X.K C f)(ns:List Str)(o:Ob H0 x C dx fl H)(he:PX X σ H e P)(k:∀ u H1,Same H H1->P u H1->H1 x=some (.ins C dx fl)->Ob H0 x C dx (fl++[(f,u)]) (upd H1 x (.ins C dx (fl++[(f,u)])))->SX X D rest σ (upd H1 x (.ins C dx (fl++[(f,u)]))))(hf:f ∉ ns)(Mp:∀ v H H',Same H H'->P v H->P v H':=by exact fun _ _ _ s h=>Mono.mono s h)(hns:fl.map (·.1)=ns:=by rfl)(hl:ns.length < 1000:=by decide)(hx:σ[0]?=some (some (.ref x)):=by rfl)
  (hN:X.N[0]?=some ("self":Str):=by rfl)(hv':Vis X.env.scope "self":=by first | exact Or.inl rfl | exact Or.inr (Or.inl rfl) | exact Or.inr (Or.inr rfl))
  (hs:swapsWith e (some (.Attribute (.Name "self" p) f pos')) pos.line X.env=pure false:=by rfl):SX X D (.Assign [.Attribute (.Name "self" p) f pos'] e pos::rest) σ H:=by
 refine ka c n he (ab (R:=cV) (K:=X.K) 0 hx rfl hN hv') o.obj (by rw [<-hns,List.length_map] at hl;exact hl) (fun v H' s' e1=>?_) hs Mp
 rw [gm hns hf]
 exact k v H' s' e1 (s' _ _ o.obj) ((o.later s').put)
theorem sL [Mono R]{d:α}{u:V}(c:Cls X.K C)(n:aA X.K C f)(he:PX X σ H e (cV K (.ref x)))(hx:H x=some (.ins C dx fl))(hl:fl.lookup f=some u)(hr:R K d u H)(hb:attributeBase e f X.env (eval e X.env)=eval e X.env:=by rfl):PX X σ H (.Attribute e f pos) (R K d):=
 kd c n (fun H1 s1 Q k=>he H1 s1 Q fun v H2 s2 e2=>k v H2 s2 ⟨x,dx,fl,u,e2,(s1.trans s2) _ _ hx,hl,Mono.mono (s1.trans s2) hr⟩) hb
end
structure kn (K:PySem.W.Frag)(C:Addr):Prop where
 cl:Cls K C
 blocks:aA K C "set_blocks"
 lines:aA K C "set_lines"
 pages:aA K C "set_pages"
 spots:aA K C "spots"
abbrev lyN:List Str:=["set_blocks","set_lines","set_pages","spots"]
theorem aeN:lyN.Nodup:=by decide +kernel
def lyF (vb vl vp vs:V):List (Str×V):=[("set_blocks",vb),("set_lines",vl),("set_pages",vp),("spots",vs)]
theorem ad1 {vb vl vp vs:V}(i:Nat){f:Str}{v:V}(h:(lyF vb vl vp vs)[i]?=some (f,v)):(lyF vb vl vp vs).lookup f=some v:=lk (ns:=lyN) i rfl aeN h
structure Kl where
 cl:Addr
 cb:Addr
 cr:Addr
 cs:Addr
 ct:Addr
def eP (st:Vamatk.State):List Bp.Sp5:=Bp.bC (Bp.eE st) (Vamatk.pageMeasure st.settings)
structure acZ (k:Kl)(K:PySem.W.Frag)(st:Vamatk.State)(vb vl vp vs:V)(H:Hp):Prop where
 b:cL cBk K st.blocks vb H
 l:cL (cLn k.cb) K (Vamatk.allLines st) vl H
 p:cL (cSp k.cs) K (eP st) vp H
 s:cL (cM (da k.ct)) K (jb st) vs H
def cLy (k:Kl):Rp Vamatk.State:=fun K st v H=>∃ p dx vb vl vp vs,v=.ref p/\H p=some (.ins k.cl dx (lyF vb vl vp vs))/\acZ k K st vb vl vp vs H
theorem acZ.mono {k:Kl}{K:PySem.W.Frag}{st:Vamatk.State}{vb vl vp vs:V}{H H':Hp}(h:acZ k K st vb vl vp vs H)(s:Same H H'):acZ k K st vb vl vp vs H':=⟨Mono.mono s h.b,Mono.mono s h.l,Mono.mono s h.p,Mono.mono s h.s⟩
instance {k:Kl}:Mono (cLy k):=⟨fun s ⟨p,dx,vb,vl,vp,vs,e,h1,h2⟩=>⟨p,dx,vb,vl,vp,vs,e,s _ _ h1,h2.mono s⟩⟩
section
variable {P:Program}{w:World}{K:PySem.W.Frag}{mg:Str->Option Value}{base:Heap}{kk:Kl}
theorem cLy.meth {st:Vamatk.State}{m:Str}(h:m ∉ lyN):∀ v H,cLy kk K st v H->∃ p dx fl,v=.ref p/\H p=some (.ins kk.cl dx fl)/\fl.lookup m=none:=by
 rintro v H ⟨p,dx,vb,vl,vp,vs,e1,e2,_⟩
 exact ⟨p,dx,_,e1,e2,lkn (ns:=lyN) rfl h⟩
theorem yr {CB C:Addr}(n:CB≠C):Stay C (cLn CB):=uI n
theorem acC {CB C:Addr}(n:CB≠C):Stay C (cRI CB):=uI n
theorem yC {CB C:Addr}(n:CB≠C):Stay C (cSp CB):=uI n
theorem uQ {CB C:Addr}(n:CB≠C):Stay C (da CB):=uI n
theorem oG {C:Addr}:Stay C cBk:=⟨fun hx h=>(abX abb).st hx h⟩
structure Apart (k:Kl)(C:Addr):Prop where
 cb:k.cb≠C
 cr:k.cr≠C
 cs:k.cs≠C
 ct:k.ct≠C
abbrev ady (K:PySem.W.Frag)(k:Kl):Sp:=spJ K k.cl (aC cSt (aC (cL cBk) aN)) (fun d=>Bp.Sound ⟨d.1,d.2.1⟩) (fun d x H=>cLy k K ⟨d.1,d.2.1⟩ (.ref x) H)
theorem yU (F:gr K mg "Layout" kk.cl "Layout.__init__" eY ["self","settings","blocks"])(c:kn K kk.cl)(ap:Apart kk kk.cl)(N:Nums mg)(g1:Cal P w K mg base "block_lines" 8 (ye K kk.cb))(g2:Cal P w K mg base "column_row" 4 (wt K kk.cb kk.cr))(g3:Cal P w K mg base "best_breaking" 6 (tJ K kk.cr kk.cs))
  (g4:Cal P w K mg base "item_spots" 3 (xY K kk.cb kk.cr kk.cs kk.ct)):gz P w K mg base "Layout" kk.cl 9 (ady K kk):=by
 refine F.cal jQ (fun vs H Q E h=>?_) (fun f cdv A outer s H vs Q E hr h=>?_)
 ·obtain ⟨x,dx,d,ws,Hb,rfl,_,_,_,⟨v1,_,rfl,_,v2,_,rfl,_,rfl⟩,_⟩:=h
  rfl
 ·obtain ⟨x,dx,⟨s',bs,u⟩,ws,Hb,rfl,hx,sb,nb,⟨v1,_,rfl,h1,v2,_,rfl,h2,rfl⟩,hp,k⟩:=h
  have so:Bp.Sound ⟨s',bs⟩:=hp
  have h1:cSt K s' v1 Hb:=h1
  have h2:cL cBk K bs v2 Hb:=h2
  have nd:=jQ.nd
  have gs:=Bp.gY (s:=s') so.settings
  have aok:=Bp.gP so
  have s1:Stay kk.cl (cL (cLn kk.cb)):=fV (yr ap.cb)
  have s2:Stay kk.cl (cL (cRI kk.cr)):=fV (acC ap.cr)
  have s3:Stay kk.cl (cL (cSp kk.cs)):=fV (yC ap.cs)
  have s4:Stay kk.cl (cL (cM (da kk.ct))):=fV (aav (uQ ap.ct))
  refine bt (K:=K) (u:=v2) c.cl c.blocks [] (Ob.start hx) (ay 2) (fun H5 o5 _=>?_) (by simp)
  have sb5:=o5.base sb nb
  refine oR (P:=cL (cLn kk.cb) K (Vamatk.allLines ⟨s',bs⟩)) c.cl c.lines ["set_blocks"] o5 (aQ g1 hr (ad (R:=cL cBk) (d:=bs) (ab 2 rfl (Mono.mono sb5 h2)) (ad (R:=cSt) (d:=s') (ab 1 rfl (Mono.mono sb5 h1)) ag)) ⟨so⟩) (fun vl H6 s6 e6 hx6 o6=>?_) (by decide +kernel)
  have sb6:=o6.base sb nb
  have hl6:=s1.st (o:=.ins kk.cl dx (([]:List (Str×V))++[(("set_blocks":Str),v2)]++[(("set_lines":Str),vl)])) hx6 e6
  refine aF (i:=3) (P:=cL (cRI kk.cr) K (Bp.eE ⟨s',bs⟩)) nd rfl (Or.inl rfl) (aQ g2 (hr.mono (by decide)) (ad (R:=cL (cLn kk.cb)) (d:=Vamatk.allLines ⟨s',bs⟩) (sL c.cl c.lines (ay (K:=K) 0) o6.obj (lk (ns:=["set_blocks","set_lines"]) 1 rfl (by decide +kernel) rfl) hl6) (ad (R:=cL cBk) (d:=bs) (ab 2 rfl (Mono.mono sb6 h2)) (ad (R:=cSt) (d:=s') (ab 1 rfl (Mono.mono sb6 h1)) ag))) ⟨?_,?_,?_⟩) fun v7 H7 s7 e7=>?_
  ·have:=Bp.bx so
   exact Nat.le_trans this (by decide)
  ·exact fun l hl=>(aok l hl).blk
  ·exact fun b hb=>b8.of so hb
  have o7:=o6.later s7
  have sb7:=o7.base sb nb
  have em:∀ {v:V} {H:Hp},v=.int s'.page->v=.int ((Vamatk.pageMeasure s').measure - (Vamatk.pageMeasure s').first):=fun {v H} e=>by
   rw [e]
   show V.int s'.page=.int (s'.page - 0)
   rw [Int.sub_zero]
  have hpg:∀ {H9:Hp},Same Hb H9->cT cI K (qk s') v1 H9:=fun s9=>(Mono.mono s9 h1:cSt K s' v1 _)
  refine oR (P:=cL (cSp kk.cs) K (eP ⟨s',bs⟩)) c.cl c.pages ["set_blocks","set_lines"] o7 (aQ g3 (hr.mono (by decide)) (ad (R:=cL (cRI kk.cr)) (d:=Bp.eE ⟨s',bs⟩) (ab 3 rfl e7) (ad (R:=cFr) (d:=Vamatk.pageMeasure s') (PX.imp (aI (K:=K) (R:=cI) (PX.toQT (ab 1 rfl (hpg sb7))) (aD N.page) (al (j:=4) rfl rfl)) fun v H _ e=>em (H:=H) e) (ad (R:=cRm) (d:=Vamatk.pageMeasure s') (PX.imp (aI (K:=K) (R:=cI) (PX.toQT (ab 1 rfl (hpg sb7))) (aD N.page) (al (j:=4) rfl rfl)) fun v H _ e=>em (H:=H) e) ag))) ⟨Bp.ux so,rfl,?_⟩) (fun vp H8 s8 e8 hx8 o8=>?_) (by decide +kernel)
  ·refine ⟨?_,?_,?_,?_⟩
   all_goals
    simp only [Vamatk.pageMeasure]
    omega
  have sb8:=o8.base sb nb
  have hl8:=s1.st (o:=.ins kk.cl dx (([]:List (Str×V))++[(("set_blocks":Str),v2)]++[(("set_lines":Str),vl)]++[(("set_pages":Str),vp)])) hx8 (Mono.mono (s7.trans s8) hl6)
  have hr8:=s2.st (o:=.ins kk.cl dx (([]:List (Str×V))++[(("set_blocks":Str),v2)]++[(("set_lines":Str),vl)]++[(("set_pages":Str),vp)])) hx8 (Mono.mono s8 e7)
  have hp8:=s3.st (o:=.ins kk.cl dx (([]:List (Str×V))++[(("set_blocks":Str),v2)]++[(("set_lines":Str),vl)]++[(("set_pages":Str),vp)])) hx8 e8
  refine oR (P:=cL (cM (da kk.ct)) K (jb ⟨s',bs⟩)) c.cl c.spots ["set_blocks","set_lines","set_pages"] o8 (aQ g4 (hr.mono (by decide)) (ad (R:=cL (cLn kk.cb)) (d:=Vamatk.allLines ⟨s',bs⟩) (sL c.cl c.lines (ay (K:=K) 0) o8.obj (lk (ns:=["set_blocks","set_lines","set_pages"]) 1 rfl (by decide +kernel) rfl) hl8) (ad (R:=cL (cRI kk.cr)) (d:=Bp.eE ⟨s',bs⟩) (ab 3 rfl hr8) (ad (R:=cL (cSp kk.cs)) (d:=eP ⟨s',bs⟩) (sL c.cl c.pages (ay (K:=K) 0) o8.obj (lk (ns:=["set_blocks","set_lines","set_pages"]) 2 rfl (by decide +kernel) rfl) hp8) (ad (R:=cL cBk) (d:=bs) (ab 2 rfl (Mono.mono sb8 h2)) (ad (R:=cSt) (d:=s') (ab 1 rfl (Mono.mono sb8 h1)) ag))))) ⟨so,rfl,rfl,rfl⟩) (fun vs H9 s9 e9 hx9 o9=>?_) (by decide +kernel)
  refine bj (k _ ⟨x,dx,v2,vl,vp,vs,rfl,aj,⟨Mono.mono (o9.base sb nb) h2,s1.st hx9 (Mono.mono s9 hl8),s3.st hx9 (Mono.mono s9 hp8),s4.st hx9 e9⟩⟩ (o9.base sb nb))
theorem iM {X:Cx}{σ:L2.St}{H:Hp}{e:Expr}{pos:Pos}{x dx:Addr}{vb vl vp vs:V}{f:Str}{u:V}{α:Type}{R:Rp α}[Mono R]{d:α}(i:Nat)(c:Cls X.K kk.cl)(n:aA X.K kk.cl f)(he:PX X σ H e (cV K (.ref x)))(hx:H x=some (.ins kk.cl dx (lyF vb vl vp vs)))(hr:R K d u H)(hi:(lyF vb vl vp vs)[i]?=some (f,u):=by rfl)(hb:attributeBase e f X.env (eval e X.env)=eval e X.env:=by rfl):
  PX X σ H (.Attribute e f pos) (R K d):=sL c n he hx (ad1 i hi) hr hb
theorem oE {n:Nat}(h:n<=8000):n < sizeLine:=Nat.lt_of_le_of_lt h (by decide)
def gk (st:Vamatk.State):List Int:=(Vamatk.allLines st).flatMap Vamatk.lineNumbers
theorem fT {α β:Type}(f:α->List β){l:List α}{i:Nat}{x:α}(h:l[i]?=some x):(l.take (i+1)).flatMap f=(l.take i).flatMap f++f x:=by
 obtain ⟨hi,e⟩:=List.getElem?_eq_some_iff.mp h
 rw [List.take_succ_eq_append_getElem hi,e,List.flatMap_append]
 simp
theorem eR {α β:Type}(f:α->List β)(n:Nat):∀ (l:List α),(∀ x∈l,(f x).length=n)->(l.flatMap f).length=n * l.length
 | [],_=>rfl
 | x::l,h=>by
  rw [List.flatMap_cons,List.length_append,h x List.mem_cons_self,eR f n l fun y hy=>h y (List.mem_cons_of_mem _ hy),List.length_cons,Nat.mul_succ]
  omega
abbrev aLy (k:Kl):Ra (Vamatk.State×Unit):=aC (cLy k) aN
theorem rL (F:aT K kk.cl "told_lines" "Layout.told_lines" cq ["self"])(c:kn K kk.cl)(cb:lB K kk.cb):az P w K mg base kk.cl "told_lines" 1 (spF K (aLy kk) (fun d=>Bp.Sound d.1) (cM cI) (fun d=>gk d.1)):=by
 refine F.cal fF len1 (fun f cdv A outer s H vs Q E hr h=>?_)
 obtain ⟨⟨st,u⟩,⟨v,_,rfl,h1,rfl⟩,hp,k⟩:=h
 have so:Bp.Sound st:=hp
 obtain ⟨x,dx,vb,vl,vp,vs,rfl,hx,ly⟩:=(show cLy kk K st v H from h1)
 have nd:=fF.nd
 obtain ⟨ll,xs,rfl,q,z⟩:=ly.l
 refine aF (i:=1) (P:=cF H cI K []) nd rfl (Or.inl rfl) (bu (R:=cI) aJ (Nat.zero_le _)) fun v4 H4 s4 e4=>?_
 obtain ⟨qa,ys,rfl,hq0,hq,hz⟩:=e4
 refine tS (K:=K) (l:=ll) (xs:=xs) (v:=2) PassesOwn.never rfl (iM (R:=cV) 1 c.cl c.lines (ay 0) (s4 _ _ hx) rfl) (s4.seq q) (bg (i:=2) nd rfl (Or.inl rfl)) (fun H5 s5=>?_)
 have hlen:=Bp.bx so
 refine ⟨fun i σ' H'=>i<=xs.length/\Same H H'/\∃ zs o2,σ'=[some (.ref x),some (.ref qa),o2]/\H' qa=some (.lst zs)/\All cI K H' zs (((Vamatk.allLines st).take i).flatMap Vamatk.lineNumbers),?_,?_,?_,?_⟩
 ·exact ⟨Nat.zero_le _,s4.trans s5,ys,none,rfl,s5 _ _ hq,hz.mono s5⟩
 ·rintro i σ' H' ⟨_,s',_⟩
  exact s'.seq q
 ·rintro i uu σ' H' hu ⟨hi,s6,zs,o2,rfl,hqt,hzt⟩
  obtain ⟨l,hl,rl⟩:=z.getV hu
  have rl6:cLn kk.cb K l uu H':=Mono.mono s6 rl
  have hb:(((Vamatk.allLines st).take i).flatMap Vamatk.lineNumbers).length<=6 * 660:=by
   rw [eR _ 6 _ fun _ _=>rfl,List.length_take]
   omega
  refine eJ (pa:=qa) (xs:=zs) (Pz:=fun ws H=>All cI K H ws (Vamatk.lineNumbers l)) (ab (R:=cV) (K:=K) 1 rfl rfl) (PX.imp (bu (R:=cI) (ds:=Vamatk.lineNumbers l) (ao (bQ 0 cb.cl cb.owner (ab 2 rfl rl6)) (ao (bQ 1 cb.cl cb.first (ab 2 rfl rl6)) (ao (bQ 2 cb.cl cb.last (ab 2 rfl rl6)) (ao (bQ 3 cb.cl cb.height (ab 2 rfl rl6)) (ao (bQ 4 cb.cl cb.depth (ab 2 rfl rl6)) (ao (bQ 5 cb.cl cb.overfull (ab 2 rfl rl6)) aJ)))))) (by show 6<=sizeLine;decide)) fun v H _ ⟨p,ws,e1,_,e2,e3⟩=>⟨p,ws,e1,e2,e3⟩) hqt (fun ws H' s' zz=>Nat.le_of_lt (oE (by rw [hzt.length,zz.length];show _+6<=8000;omega))) (fun ws H9 s9 zz=>?_)
  have h9:H9 qa=some (.lst zs):=s9 _ _ hqt
  refine bj ⟨(List.getElem?_eq_some_iff.mp hu).1,bK (s6.trans s9) hq0,zs++ws,some uu,rfl,aj,?_⟩
  rw [fT _ hl]
  exact ((hzt.mono s9).put h9).append (zz.put h9)
 ·rintro σ' H' ⟨_,s6,zs,o2,rfl,hqt,hzt⟩
  rw [z.length,List.take_length] at hzt
  exact ai (P:=cM cI K (gk st)) (ab 1 rfl ⟨qa,zs,rfl,hqt,hzt⟩) (fun v H9 s9 e9=>k v H9 (s6.trans s9) e9)
def sJ (x:Bp.Sp5):List Int:=[x.first,x.last,x.slack,x.over]
def eS (st:Vamatk.State):List Int:=(eP st).flatMap sJ
theorem iu {st:Vamatk.State}(so:Bp.Sound st):(eP st).length<=660:=by
 have:=Bp.uj so
 unfold eP Bp.bC
 rw [List.length_map]
 exact this
theorem rE (F:aT K kk.cl "told_pages" "Layout.told_pages" ci ["self"])(c:kn K kk.cl)(cs:qg K kk.cs):az P w K mg base kk.cl "told_pages" 1 (spF K (aLy kk) (fun d=>Bp.Sound d.1) (cM cI) (fun d=>eS d.1)):=by
 refine F.cal fG len1 (fun f cdv A outer s H vs Q E hr h=>?_)
 obtain ⟨⟨st,u⟩,⟨v,_,rfl,h1,rfl⟩,hp,k⟩:=h
 have so:Bp.Sound st:=hp
 obtain ⟨x,dx,vb,vl,vp,vs,rfl,hx,ly⟩:=(show cLy kk K st v H from h1)
 have nd:=fG.nd
 obtain ⟨ll,xs,rfl,q,z⟩:=ly.p
 refine aF (i:=1) (P:=cF H cI K []) nd rfl (Or.inl rfl) (bu (R:=cI) aJ (Nat.zero_le _)) fun v4 H4 s4 e4=>?_
 obtain ⟨qa,ys,rfl,hq0,hq,hz⟩:=e4
 refine tS (K:=K) (l:=ll) (xs:=xs) (v:=2) PassesOwn.never rfl (iM (R:=cV) 2 c.cl c.pages (ay 0) (s4 _ _ hx) rfl) (s4.seq q) (bg (i:=2) nd rfl (Or.inl rfl)) (fun H5 s5=>?_)
 have hlen:=iu so
 refine ⟨fun i σ' H'=>i<=xs.length/\Same H H'/\∃ zs o2,σ'=[some (.ref x),some (.ref qa),o2]/\H' qa=some (.lst zs)/\All cI K H' zs (((eP st).take i).flatMap sJ),?_,?_,?_,?_⟩
 ·exact ⟨Nat.zero_le _,s4.trans s5,ys,none,rfl,s5 _ _ hq,hz.mono s5⟩
 ·rintro i σ' H' ⟨_,s',_⟩
  exact s'.seq q
 ·rintro i uu σ' H' hu ⟨hi,s6,zs,o2,rfl,hqt,hzt⟩
  obtain ⟨l,hl,rl⟩:=z.getV hu
  have rl6:cSp kk.cs K l uu H':=Mono.mono s6 rl
  have hb:(((eP st).take i).flatMap sJ).length<=4 * 660:=by
   rw [eR _ 4 _ fun _ _=>rfl,List.length_take]
   omega
  refine eJ (pa:=qa) (xs:=zs) (Pz:=fun ws H=>All cI K H ws (sJ l)) (ab (R:=cV) (K:=K) 1 rfl rfl) (PX.imp (bu (R:=cI) (ds:=sJ l) (ao (db 0 cs.cl cs.first (ab 2 rfl rl6)) (ao (db 1 cs.cl cs.last (ab 2 rfl rl6)) (ao (db 2 cs.cl cs.slack (ab 2 rfl rl6)) (ao (db 3 cs.cl cs.overfull (ab 2 rfl rl6)) aJ)))) (by show 4<=sizeLine;decide)) fun v H _ ⟨p,ws,e1,_,e2,e3⟩=>⟨p,ws,e1,e2,e3⟩) hqt (fun ws H' s' zz=>Nat.le_of_lt (oE (by rw [hzt.length,zz.length];show _+4<=8000;omega))) (fun ws H9 s9 zz=>?_)
  have h9:H9 qa=some (.lst zs):=s9 _ _ hqt
  refine bj ⟨(List.getElem?_eq_some_iff.mp hu).1,bK (s6.trans s9) hq0,zs++ws,some uu,rfl,aj,?_⟩
  rw [fT _ hl]
  exact ((hzt.mono s9).put h9).append (zz.put h9)
 ·rintro σ' H' ⟨_,s6,zs,o2,rfl,hqt,hzt⟩
  rw [z.length,List.take_length] at hzt
  exact ai (P:=cM cI K (eS st)) (ab 1 rfl ⟨qa,zs,rfl,hqt,hzt⟩) (fun v H9 s9 e9=>k v H9 (s6.trans s9) e9)
def gZ (st:Vamatk.State):List Int:=[((Vamatk.allLines st).map fun l=>l.over).sum,((eP st).map fun x=>x.over).sum,((eP st).map fun x=>x.cost).sum,(Vamatk.allLines st).length,(eP st).length]
theorem qW (F:aT K kk.cl "told_worth" "Layout.told_worth" cj ["self"])(c:kn K kk.cl)(cb:lB K kk.cb)(cs:qg K kk.cs)(B:Blt mg):az P w K mg base kk.cl "told_worth" 1 (spF K (aLy kk) (fun d=>Bp.Sound d.1) (cM cI) (fun d=>gZ d.1)):=by
 refine F.cal fE len1 (fun f cdv A outer s H vs Q E hr h=>?_)
 obtain ⟨⟨st,u⟩,⟨v,_,rfl,h1,rfl⟩,hp,k⟩:=h
 have so:Bp.Sound st:=hp
 obtain ⟨x,dx,vb,vl,vp,vs,rfl,hx,ly⟩:=(show cLy kk K st v H from h1)
 have nd:=fE.nd
 have hl1:=Bp.bx so
 have hl2:=iu so
 refine ai (P:=cM cI K (gZ st)) (PX.toM (bu (R:=cI) (ds:=gZ st) (ao (tH (K:=K) rfl (PX.toL (eU (K:=K) (R:=cLn kk.cb) (S:=cI) 0 1 (fun l=>l.over) rfl nd (iM 1 c.cl c.lines (ay (K:=K) 0) hx ly.l) (a9 (by omega)) ?_)) B.sum uG) (ao (tH (K:=K) rfl (PX.toL (eU (K:=K) (R:=cSp kk.cs) (S:=cI) 0 2 (fun l=>l.over) rfl nd (iM 2 c.cl c.pages (ay (K:=K) 0) hx ly.p) (a9 (by omega)) ?_)) B.sum uG) (ao (tH (K:=K) rfl (PX.toL (eU (K:=K) (R:=cSp kk.cs) (S:=cI) 0 2 (fun l=>l.cost) rfl nd (iM 2 c.cl c.pages (ay (K:=K) 0) hx ly.p) (a9 (by omega)) ?_)) B.sum uG) (ao (dc (K:=K) (R:=cLn kk.cb) (PX.toQ (iM 1 c.cl c.lines (ay (K:=K) 0) hx ly.l)) B.len) (ao (dc (K:=K) (R:=cSp kk.cs) (PX.toQ (iM 2 c.cl c.pages (ay (K:=K) 0) hx ly.p)) B.len) aJ))))) (by show 5<=sizeLine;decide))) (fun v H9 s9 e9=>k v H9 s9 e9)
 ·intro i d hd t H' s' r s0 H0' C cl fp
  exact bQ 5 cb.cl cb.overfull (ab 1 rfl r)
 ·intro i d hd t H' s' r s0 H0' C cl fp
  exact db 3 cs.cl cs.overfull (ab 2 rfl r)
 ·intro i d hd t H' s' r s0 H0' C cl fp
  exact db 4 cs.cl cs.cost (ab 2 rfl r)
theorem hW {st:Vamatk.State}{i:Nat}(h:i < st.blocks.length):(jb st)[i]?=some ((Bp.spB st i).map Bp.cy):=by
 unfold jb
 rw [List.getElem?_map,List.getElem?_range h]
 rfl
theorem uH {st:Vamatk.State}(so:Bp.Sound st){i:Nat}(h:i < st.blocks.length):(Bp.spB st i).length<=600:=by
 have hb:st.blocks[i]?=some (st.blocks[i]'h):=List.getElem?_eq_getElem h
 rw [Bp.io so hb]
 have bk:=b8.of so (List.mem_of_getElem? hb)
 unfold Bp.aB
 have:=bk.few
 unfold Vamatk.itemCount at this
 cases e:(st.blocks[i]'h).body with
 | display way w _ _=>simp
 | paragraph f row=>
  rw [e] at this
  simpa using this
theorem ve (F:aT K kk.cl "has_item" "Layout.has_item" c6 ["self","i","k"])(c:kn K kk.cl)(B:Blt mg):az P w K mg base kk.cl "has_item" 1 (spF K (aC (cLy kk) (aC aU (aC cI aN))) (fun d=>d.2.1 < d.1.blocks.length) cB (fun d=>decide (0<=d.2.2.1)&&decide (d.2.2.1 < ((Bp.spB d.1 d.2.1).length:Int)))):=by
 refine F.cal lr len3 (fun f cdv A outer s H vs Q E hr h=>?_)
 obtain ⟨⟨st,i,kk',u⟩,⟨v,_,rfl,h1,v2,_,rfl,h2,v3,_,rfl,h3,rfl⟩,hp,k⟩:=h
 have hp:i < st.blocks.length:=hp
 have h2:cI K (i:Int) v2 H:=h2
 obtain ⟨x,dx,vb,vl,vp,vs,rfl,hx,ly⟩:=(show cLy kk K st v H from h1)
 refine ai (P:=cB K _) (lw kO vi (ax (K:=K)) (ab (R:=cI) 2 rfl h3) (dc (K:=K) (R:=da kk.ct) (PX.mQ (aI (K:=K) (R:=cM (da kk.ct)) (PX.toQ (iM 3 c.cl c.spots (ay (K:=K) 0) hx ly.s)) (ab (R:=cI) 1 rfl h2) (al rfl (hW hp)))) B.len)) (fun v H9 s9 e9=>k v H9 s9 ?_)
 have e9:cB K (decide (0<=kk')&&decide (kk' < ((((Bp.spB st i).map Bp.cy).length:Nat):Int))) v H9:=e9
 rw [List.length_map] at e9
 exact e9
abbrev abJ (K:PySem.W.Frag)(CT:Addr):Sp:=spF K (aC (da CT) aN) (fun _=>True) (cM cI) (fun d=>tri3 d.1)
theorem vm {CT:Addr}{t:List Int}{m:Str}(h:m ∉ (["page","x","y"]:List Str)):∀ v H,da CT K t v H->∃ p dx fl,v=.ref p/\H p=some (.ins CT dx fl)/\fl.lookup m=none:=by
 rintro v H ⟨p,dx,e1,e2⟩
 exact ⟨p,dx,_,e1,e2,lkn (ns:=["page","x","y"]) rfl h⟩
theorem qZ (F:aT K kk.cl "told_place" "Layout.told_place" cf ["self","i","k"])(c:kn K kk.cl)(ct:qv K kk.ct)(g1:az P w K mg base kk.ct "told" 1 (abJ K kk.ct)):az P w K mg base kk.cl "told_place" 2 (spF K (aC (cLy kk) (aC aU (aC aU aN))) (fun d=>d.2.1 < d.1.blocks.length/\d.2.2.1 < (Bp.spB d.1 d.2.1).length) (cM cI) (fun d=>Bp.cy ((Bp.spB d.1 d.2.1).getD d.2.2.1 ⟨0,0,0,0,0,0,0,0⟩))):=by
 refine F.cal jJ len3 (fun f cdv A outer s H vs Q E hr h=>?_)
 obtain ⟨⟨st,i,j,u⟩,⟨v,_,rfl,h1,v2,_,rfl,h2,v3,_,rfl,h3,rfl⟩,hp,k⟩:=h
 obtain ⟨p1,p2⟩:i < st.blocks.length/\j < (Bp.spB st i).length:=hp
 have h2:cI K (i:Int) v2 H:=h2
 have h3:cI K (j:Int) v3 H:=h3
 obtain ⟨x,dx,vb,vl,vp,vs,rfl,hx,ly⟩:=(show cLy kk K st v H from h1)
 have ge:((Bp.spB st i).map Bp.cy)[j]?=some (Bp.cy ((Bp.spB st i).getD j ⟨0,0,0,0,0,0,0,0⟩)):=by
  rw [List.getElem?_map,List.getD_eq_getElem?_getD,List.getElem?_eq_getElem p2]
  rfl
 exact ai (P:=cM cI K (Bp.cy ((Bp.spB st i).getD j ⟨0,0,0,0,0,0,0,0⟩))) (hX ct.cl g1 hr (aI (K:=K) (R:=da kk.ct) (PX.mQ (aI (K:=K) (R:=cM (da kk.ct)) (PX.toQ (iM 3 c.cl c.spots (ay (K:=K) 0) hx ly.s)) (ab (R:=cI) 1 rfl h2) (al rfl (hW p1)))) (ab (R:=cI) 2 rfl h3) (al rfl ge)) (vm (by decide +kernel)) trivial) (fun v H9 s9 e9=>k v H9 s9 e9)
theorem oY (F:aT K kk.cl "told_places" "Layout.told_places" bX ["self","i"])(c:kn K kk.cl)(ct:qv K kk.ct)(g1:az P w K mg base kk.ct "told" 1 (abJ K kk.ct)):az P w K mg base kk.cl "told_places" 2 (spF K (aC (cLy kk) (aC aU aN)) (fun d=>Bp.Sound d.1/\d.2.1 < d.1.blocks.length) (cM cI) (fun d=>(Bp.spB d.1 d.2.1).flatMap Bp.cy)):=by
 refine F.cal fq len2 (fun f cdv A outer s H vs Q E hr h=>?_)
 obtain ⟨⟨st,i,u⟩,⟨v,_,rfl,h1,v2,_,rfl,h2,rfl⟩,hp,k⟩:=h
 obtain ⟨so,hp⟩:Bp.Sound st/\i < st.blocks.length:=hp
 have h2:v2=.int (i:Int):=h2
 subst h2
 obtain ⟨x,dx,vb,vl,vp,vs,rfl,hx,ly⟩:=(show cLy kk K st v H from h1)
 have nd:=fq.nd
 obtain ⟨ls,xs,rfl,q,z⟩:=ly.s
 obtain ⟨ua,hua,la,xa,rfl,qa',za⟩:=z.get (hW hp)
 have few:=uH so hp
 refine aF (i:=2) (P:=cF H cI K []) nd rfl (Or.inl rfl) (bu (R:=cI) aJ (Nat.zero_le _)) fun v4 H4 s4 e4=>?_
 obtain ⟨qa,ys,rfl,hq0,hq,hz⟩:=e4
 have hcv:cQ cV K xs (.ref ls) H4:=.inl ⟨ls,xs,rfl,s4.seq q,by
  generalize xs=l
  unfold All
  induction l with
  | nil=>exact .nil
  | cons x l ih=>exact .cons rfl ih⟩
 refine tS (K:=K) (l:=la) (xs:=xa) (v:=3) PassesOwn.never rfl (aI (K:=K) (R:=cV) (as:=xs) (iM (R:=cQ cV) 3 c.cl c.spots (ay (K:=K) 0) (s4 _ _ hx) hcv) (ab (R:=cI) 1 rfl rfl) (al rfl hua)) (SqL.of (s4 _ _ qa')) (bg (i:=3) nd rfl (Or.inl rfl)) (fun H5 s5=>?_)
 refine ⟨fun t σ' H'=>t<=xa.length/\Same H H'/\∃ zs o3,σ'=[some (.ref x),some (.int (i:Int)),some (.ref qa),o3]/\H' qa=some (.lst zs)/\All cI K H' zs (((Bp.spB st i).take t).flatMap Bp.cy),?_,?_,?_,?_⟩
 ·exact ⟨Nat.zero_le _,s4.trans s5,ys,none,rfl,s5 _ _ hq,hz.mono s5⟩
 ·rintro t σ' H' ⟨_,s',_⟩
  exact SqL.of (s' _ _ qa')
 ·rintro t uu σ' H' hu ⟨hi,s6,zs,o3,rfl,hqt,hzt⟩
  obtain ⟨tt,htt,rt⟩:=za.getV hu
  obtain ⟨sp,hsp,rfl⟩:∃ sp,(Bp.spB st i)[t]?=some sp/\tt=Bp.cy sp:=by
   rw [List.getElem?_map] at htt
   cases e:(Bp.spB st i)[t]? with
   | none=>rw [e] at htt;cases htt
   | some sp=>rw [e] at htt;exact ⟨sp,rfl,(Option.some.inj htt).symm⟩
  have rt6:da kk.ct K (Bp.cy sp) uu H':=Mono.mono s6 rt
  have hb:(((Bp.spB st i).take t).flatMap Bp.cy).length<=3 * 600:=by
   rw [eR _ 3 _ fun _ _=>rfl,List.length_take]
   omega
  refine eJ (pa:=qa) (xs:=zs) (Pz:=fun ws H=>All cI K H ws (Bp.cy sp)) (ab (R:=cV) (K:=K) 2 rfl rfl) (hX (U:=cM cI) (y:=Bp.cy sp) ct.cl g1 hr (ab 3 rfl rt6) (vm (by decide +kernel)) trivial) hqt (fun ws H' s' zz=>Nat.le_of_lt (oE (by rw [hzt.length,zz.length];show _+3<=8000;omega))) (fun ws H9 s9 zz=>?_)
  have h9:H9 qa=some (.lst zs):=s9 _ _ hqt
  refine bj ⟨(List.getElem?_eq_some_iff.mp hu).1,bK (s6.trans s9) hq0,zs++ws,some uu,rfl,aj,?_⟩
  rw [fT _ hsp]
  exact ((hzt.mono s9).put h9).append (zz.put h9)
 ·rintro σ' H' ⟨_,s6,zs,o3,rfl,hqt,hzt⟩
  have e:xa.length=(Bp.spB st i).length:=by rw [za.length,List.length_map]
  rw [e,List.take_length] at hzt
  exact ai (P:=cM cI K _) (ab 2 rfl ⟨qa,zs,rfl,hqt,hzt⟩) (fun v H9 s9 e9=>k v H9 (s6.trans s9) e9)
end
section
variable {X:Cx}{σ:L2.St}{H0 H:Hp}{e:Expr}{pos cpos tpos:Pos}{α:Type}{R:Rp α}{K:PySem.W.Frag}{D:Ends}{rest body:List Stmt}
theorem abL {as:List α}[Mono R]{i1 i2:Nat}{elts:List Expr}{kk:Nat}{pe:Pos}(hp:PassesOwn (model X.prog X.w) X.A X.env X.xe)(hc:X.calm=true)(h:PX X σ H e (cF H R K as))(hg:PG X (.Tuple elts kk tpos) (xn X.K 2 (hG (cH i1) (hG (cH i2) xu))))
  (k:∀ H1 l xs,Same H H1->H l=none->H1 l=some (.lst xs)->All R K H1 xs as->∃ Pv:Nat->L2.St->Hp->Prop,Pv 0 σ H1/\(∀ i σ' H',Pv i σ' H'->H' l=some (.lst xs))/\
   (∀ i d v σ' H',as[i]?=some d->xs[i]?=some v->Pv i σ' H'->∀ H2,Same H' H2->(∀ b o,H2 b=some o->(∀ ys,o≠.tup ys)->H' b=some o)->SX X {D with nx:=Pv (i+1),ct:=Pv (i+1),bk:=SX X D rest} body ((σ'.set i1 (some (.int i))).set i2 (some v)) H2)/\∀ σ' H',Pv as.length σ' H'->SX X D rest σ' H')
  (hm:X.mg "enumerate"=none) (hge:Gl X "enumerate":=by rfl) (hs:starEach [e] X.env=(false,eval e X.env)::starEach [] X.env:=by rfl) (hs1:starEach [e] X.env=[(false,eval e X.env)]:=by rfl) (hf:∀ x,foldedSetIterable (.Call (.Name "enumerate" pe) [e] [] cpos) X.env x=pure x:=by intro _;rfl):
  SX X D (.For (.Tuple elts kk tpos) (.Call (.Name "enumerate" pe) [e] [] cpos) body [] pos::rest) σ H:=by
 refine iy (T:=fun J H1=>∃ l xs,J=Ite X.K l/\Same H H1/\H l=none/\H1 l=some (.lst xs)/\All R K H1 xs as) hp hc (ym hge hm (aq ah be hs) hs1) hg (fun R' k=>h.now fun v H1 s1 ⟨l,xs,e1,n,q,z⟩=>⟨l,xs,by rw [e1],SqL.of q,k _ H1 ⟨l,xs,rfl,s1,n,q,z⟩⟩) ?_ hf
 rintro J H1 ⟨l,xs,rfl,s1,n,q,z⟩
 obtain ⟨Pv,p0,pl,pt,pd⟩:=k H1 l xs s1 n q z
 refine ⟨as.length,Pv,p0,fun i σ' H' hi pv=>?_,fun σ' H' pv=>⟨⟨xs,SqL.of (pl _ _ _ pv),by rw [z.length];exact Nat.le_refl _⟩,pd σ' H' pv⟩⟩
 have hx:i < xs.length:=by rw [z.length];exact hi
 refine ⟨⟨xs,xs[i],SqL.of (pl _ _ _ pv),List.getElem?_eq_getElem hx⟩,?_⟩
 rintro v H2 ⟨T,x,rfl,hT,rfl,hy⟩
 have ex:=hy xs (SqL.of (pl _ _ _ pv))
 refine ⟨T,_,rfl,SqT.of aj,rfl,_,_,rfl,_,_,rfl,rfl,pt i as[i] x σ' H' (List.getElem?_eq_getElem hi) ex pv _ (a8 hT) fun b o h1 h2=>?_⟩
 by_cases hb:b=T
 ·subst hb
  rw [aj] at h1
  exact absurd (Option.some.inj h1).symm (h2 _)
 ·rw [am hb] at h1
  exact h1
end
section
variable {P:Program}{w:World}{K:PySem.W.Frag}{mg:Str->Option Value}{base:Heap}{kk:Kl}
abbrev wp (K:PySem.W.Frag):Sp:=spH K (aC cBk aN) (fun d=>b8 d.1) (fun H d=>cF H (cT cI) K (Bp.aB d.1))
theorem sY (F:aW K mg "sizes_of" gn ["block"])(N:Nums mg)(g1:Cal P w K mg base "is_paragraph" 1 (ie K))(g2:Cal P w K mg base "items_of" 3 (tX K)):Cal P w K mg base "sizes_of" 4 (wp K):=by
 refine F.cal iE (fun vs H Q E h=>?_) (fun f cdv A outer s H vs Q E hr h=>?_)
 ·obtain ⟨d,⟨v,_,rfl,_,rfl⟩,_⟩:=h
  rfl
 obtain ⟨⟨b,u⟩,⟨v,_,rfl,h1,rfl⟩,hp,k⟩:=h
 have hp:b8 b:=hp
 have h1:cT cI K (Vamatk.numbersOf b) v H:=h1
 refine aH (d:=cC (Vamatk.numbersOf b)) (bn (aQ g1 (hr.mono (by decide)) (ad (R:=cQ cI) (d:=Vamatk.numbersOf b) (PX.toQT (ab 0 rfl h1)) ag) hp.long)) (fun hd H' s'=>?_) (fun hd H' s'=>?_)
 ·cases hp.cases with
  | disp y w h d e=>rw [e,Bp.bc] at hd;exact absurd (show decide ((1:Int)=0)=true from hd) (by decide)
  | para f row e ne len good fr=>
   have e1:Vamatk.numbersOf b=b.before::b.stretch::b.shrink::b.cost::0::f::row.flatMap Vamati.numbersOf:=by
    have:=congrArg Vamatk.numbersOf e
    rw [Bp.aV] at this
    exact this
   have e2:Bp.aB b=(row.map Vamati.numbersOf).map (fun l=>l.take 3):=by
    rw [e,List.map_map]
    rfl
   rw [e1] at h1
   refine ai (P:=cF H' (cT cI) K (Bp.aB b)) ?_ (fun v H2 s2 ⟨p,xs,q1,n,q2,z⟩=>k v H2 (s'.trans s2) ⟨p,xs,q1,s'.free n,q2,z⟩)
   rw [e2]
   refine eU (K:=K) (R:=cT cI) (S:=cT cI) [] 1 (fun l=>l.take 3) rfl iE.nd (aQ g2 hr (ad (R:=cT cI) (ab 0 rfl (Mono.mono s' h1)) ag) (tQ ne len) (gg _ _ _ _ _ _ row)) (by rw [List.length_map];exact a9 (by omega)) ?_
   intro i d hd t H2 s2 r s0 H0' C cl fp
   obtain ⟨a,_,rfl⟩:=List.mem_map.mp (List.mem_of_getElem? hd)
   refine PX.cast (mD (K:=K) (R:=cI) (ab 1 rfl r) cE (aS (K:=K) (aD N.spacePlace)) ?_) (qM _ 3)
   rintro ⟨_,q2⟩
   have q2:HT.sIx 7 7 (some 3)=7:=q2
   revert q2
   decide
 ·cases hp.cases with
  | para f row e ne len good fr=>rw [e,Bp.aV] at hd;exact absurd (show decide ((0:Int)=0)=false from hd) (by decide)
  | disp y w h d e=>
   have e1:Vamatk.numbersOf b=[b.before,b.stretch,b.shrink,b.cost,1,y,w,h,d]:=by
    have:=congrArg Vamatk.numbersOf e
    rw [Bp.bc] at this
    exact this
   have e2:Bp.aB b=[[w,h,d]]:=by
    rw [e]
    rfl
   rw [e1] at h1
   refine ai (P:=cF H' (cT cI) K (Bp.aB b)) ?_ (fun v H2 s2 ⟨p,xs,q1,n,q2,z⟩=>k v H2 (s'.trans s2) ⟨p,xs,q1,s'.free n,q2,z⟩)
   rw [e2]
   refine bu (ao (R:=cT cI) (PX.cast (mD (K:=K) (R:=cI) (ab 0 rfl (Mono.mono s' h1)) (aS (K:=K) (aD N.displayWidth)) cE ?_) (ik _ 6)) aJ) (by show 1<=sizeLine;decide)
   rintro ⟨q1,_⟩
   have q1:HT.sIx 9 0 (some 6)=0:=q1
   revert q1
   decide
theorem aab {n:Nat}(h:n<=100000):n < sizeLine:=Nat.lt_of_le_of_lt h (by decide)
theorem bT {α β:Type}(f:α->List β)(n:Nat):∀ (l:List α),(∀ x∈l,(f x).length<=n)->(l.flatMap f).length<=n * l.length
 | [],_=>Nat.zero_le _
 | x::l,h=>by
  rw [List.flatMap_cons,List.length_append,List.length_cons,Nat.mul_succ]
  have h1:=h x List.mem_cons_self
  have h2:=bT f n l fun y hy=>h y (List.mem_cons_of_mem _ hy)
  omega
theorem uR {b:Vamatk.Block}:∀ z∈Bp.aB b,z.length=3:=by
 unfold Bp.aB
 cases b.body with
 | display way w h d=>
  intro z hz
  have:=List.mem_singleton.mp hz
  subst this
  rfl
 | paragraph f row=>
  intro z hz
  obtain ⟨a,_,rfl⟩:=List.mem_map.mp hz
  rfl
theorem sO {b:Vamatk.Block}(o:b8 b):(Bp.aB b).length<=600:=by
 unfold Bp.aB
 have:=o.few
 unfold Vamatk.itemCount at this
 cases e:b.body with
 | display way w _ _=>simp
 | paragraph f row=>
  rw [e] at this
  simpa using this
def jo (st:Vamatk.State)(page x y:Int)(i:Nat)(z:List Int×Nat):List Int:=if (((Bp.spB st i).map Bp.cy).getD z.2 []).getD 0 0=page/\Bp.eF (((Bp.spB st i).map Bp.cy).getD z.2 []) z.1 x y=true then [(i:Int),(z.2:Int)] else []
theorem vh (st:Vamatk.State)(page x y:Int)(i:Nat)(z:List Int×Nat):(jo st page x y i z).length<=2:=by
 unfold jo
 split<;>simp
theorem ku (st:Vamatk.State)(page x y:Int)(i:Nat)(b:Vamatk.Block)(o:b8 b):(Bp.d8 st page x y i b).length<=1200:=by
 have h:=bT (jo st page x y i) 2 (Bp.aB b).zipIdx fun z _=>vh st page x y i z
 have h2:=sO o
 rw [List.length_zipIdx] at h
 show ((Bp.aB b).zipIdx.flatMap (jo st page x y i)).length<=1200
 omega
def atT (st:Vamatk.State)(page x y:Int):List Int:=st.blocks.zipIdx.flatMap fun z=>Bp.d8 st page x y z.2 z.1
abbrev abB (K:PySem.W.Frag)(CT:Addr):Sp:=spF K (aC (da CT) (aC (cT cI) (aC cI (aC cI aN)))) (fun d=>d.2.1.length=3) cB (fun d=>Bp.eF d.1 d.2.1 d.2.2.1 d.2.2.2.1)
theorem wW (F:aT K kk.cl "told_at" "Layout.told_at" du ["self","page","x","y"])(c:kn K kk.cl)(ct:qv K kk.ct)(B:Blt mg)(g1:Cal P w K mg base "sizes_of" 4 (wp K))(g2:Cal P w K mg base "covers" 1 (abB K kk.ct)):
  az P w K mg base kk.cl "told_at" 5 (spF K (aC (cLy kk) (aC cI (aC cI (aC cI aN)))) (fun d=>Bp.Sound d.1) (cM cI) (fun d=>atT d.1 d.2.1 d.2.2.1 d.2.2.2.1)):=by
 refine F.cal hJ len4 (fun f cdv A outer s H vs Q E hr h=>?_)
 obtain ⟨⟨st,pg,px,py,u⟩,⟨v,_,rfl,h1,v2,_,rfl,h2,v3,_,rfl,h3,v4,_,rfl,h4,rfl⟩,hp,k⟩:=h
 have so:Bp.Sound st:=hp
 have h2:v2=.int pg:=h2
 have h3:v3=.int px:=h3
 have h4:v4=.int py:=h4
 subst h2 h3 h4
 obtain ⟨x,dx,vb,vl,vp,vs,rfl,hx,ly⟩:=(show cLy kk K st v H from h1)
 have nd:=hJ.nd
 obtain ⟨lb,xb,rfl,qb,zb⟩:=ly.b
 obtain ⟨ls,xs,rfl,qs,zs0⟩:=ly.s
 have many:=so.many
 refine aF (i:=4) (P:=cF H cI K []) nd rfl (Or.inl rfl) (bu (R:=cI) aJ (Nat.zero_le _)) fun v5 H5 s5 e5=>?_
 obtain ⟨qa,ys,rfl,hq0,hq,hz⟩:=e5
 refine kN (K:=K) (l:=lb) (xs:=xb) (i1:=5) (i2:=6) PassesOwn.never rfl (iM (R:=cV) 0 c.cl c.blocks (ay 0) (s5 _ _ hx) rfl) (s5.seq qb) (jd rfl (bE (bg (i:=5) nd rfl (Or.inl rfl)) (bE (bg (i:=6) nd rfl (Or.inl rfl)) gN))) (fun H6 s6=>?_) B.enum
 refine ⟨fun i σ' H'=>i<=xb.length/\Same H H'/\∃ zs o5 o6 o7 o8 o9,σ'=[some (.ref x),some (.int pg),some (.int px),some (.int py),some (.ref qa),o5,o6,o7,o8,o9]/\H' qa=some (.lst zs)/\All cI K H' zs ((st.blocks.zipIdx.take i).flatMap fun z=>Bp.d8 st pg px py z.2 z.1),?_,?_,?_,?_⟩
 ·exact ⟨Nat.zero_le _,s5.trans s6,ys,none,none,none,none,none,rfl,s6 _ _ hq,hz.mono s6⟩
 ·rintro i σ' H' ⟨_,s',_⟩
  exact s'.seq qb
 ·rintro i ub σ' H' hub ⟨hi,s7,zs,o5,o6,o7,o8,o9,rfl,hqt,hzt⟩ H8 s8 _
  obtain ⟨b,hb,rb⟩:=zb.getV hub
  have hib:i < st.blocks.length:=(List.getElem?_eq_some_iff.mp hb).1
  have bk:=b8.of so (List.mem_of_getElem? hb)
  have few:=sO bk
  have slen:=Bp.io so hb
  have s78:=s7.trans s8
  have hq8:H8 qa=some (.lst zs):=s8 _ _ hqt
  obtain ⟨ua,hua,la,xa,rfl,qla,zla⟩:=zs0.get (hW hib)
  have hlen1:((st.blocks.zipIdx.take i).flatMap fun z=>Bp.d8 st pg px py z.2 z.1).length<=72000:=by
   have h:=bT (fun z:Vamatk.Block×Nat=>Bp.d8 st pg px py z.2 z.1) 1200 (st.blocks.zipIdx.take i) fun z hz=>ku st pg px py z.2 z.1 (b8.of so (by
    have hz:=List.mem_of_mem_take hz
    exact List.mem_of_getElem? (Bp.fZ hz)))
   rw [List.length_take,List.length_zipIdx] at h
   omega
  refine abL (K:=K) (R:=cT cI) (as:=Bp.aB b) (i1:=7) (i2:=8) PassesOwn.never rfl (xq g1 hr (ad (R:=cBk) (d:=b) (ab 6 rfl (Mono.mono s78 rb)) ag) bk) (jd rfl (bE (bg (i:=7) nd rfl (Or.inl rfl)) (bE (bg (i:=8) nd rfl (Or.inl rfl)) gN))) (fun H9 lz xz s9 n9 q9 z9=>?_) B.enum
  have nlz:lz≠qa:=fun e=>by rw [e,hq8] at n9;cases n9
  refine ⟨fun t σ' H'=>t<=(Bp.aB b).length/\Same H H'/\H' lz=some (.lst xz)/\All (cT cI) K H' xz (Bp.aB b)/\∃ zs o7 o8 o9,σ'=[some (.ref x),some (.int pg),some (.int px),some (.int py),some (.ref qa),some (.int (i:Int)),some ub,o7,o8,o9]/\H' qa=some (.lst zs)/\All cI K H' zs (((st.blocks.zipIdx.take i).flatMap fun z=>Bp.d8 st pg px py z.2 z.1)++((Bp.aB b).zipIdx.take t).flatMap (jo st pg px py i)),?_,?_,?_,?_⟩
  ·refine ⟨Nat.zero_le _,s78.trans s9,q9,z9,zs,o7,o8,o9,rfl,s9 _ _ hq8,?_⟩
   rw [List.take_zero,List.flatMap_nil,List.append_nil]
   exact hzt.mono (s8.trans s9)
  ·rintro t σ' H' ⟨_,_,q,_⟩
   exact q
  ·rintro t sz uz σ' H' hsz huz ⟨ht,s10,q10,z10,zs',o7,o8,o9,rfl,hqt',hzt'⟩ H11 s11 _
   obtain ⟨sz',hsz',rsz⟩:=z10.getV huz
   rw [hsz] at hsz'
   cases hsz'
   have htl:t < (Bp.aB b).length:=(List.getElem?_eq_some_iff.mp hsz).1
   have hts:t < (Bp.spB st i).length:=by omega
   have s1011:=s10.trans s11
   have gt:((Bp.spB st i).map Bp.cy)[t]?=some (((Bp.spB st i).map Bp.cy).getD t []):=by rw [List.getD_eq_getElem?_getD,List.getElem?_eq_getElem (by rw [List.length_map];exact hts)];rfl
   generalize egt:((Bp.spB st i).map Bp.cy).getD t []=tt at gt
   have hs11:cL (cM (da kk.ct)) K (jb st) (.ref ls) H11:=Mono.mono s1011 ⟨ls,xs,rfl,qs,zs0⟩
   refine aF (i:=9) (P:=da kk.ct K tt) nd rfl (Or.inl rfl) (aI (K:=K) (R:=da kk.ct) (PX.mQ (aI (K:=K) (R:=cM (da kk.ct)) (PX.toQ (iM 3 c.cl c.spots (ay (K:=K) 0) (s1011 _ _ hx) hs11)) (ab (R:=cI) 5 rfl rfl) (al rfl (hW hib)))) (ab (R:=cI) 7 rfl rfl) (al rfl gt)) fun v12 H12 s12 e12=>?_
   have hq12:H12 qa=some (.lst zs'):=s12 _ _ (s11 _ _ hqt')
   have rsz12:cT cI K sz uz H12:=Mono.mono (s11.trans s12) rsz
   have hzi:(Bp.aB b).zipIdx[t]?=some (sz,t):=by rw [List.getElem?_zipIdx,hsz];simp
   have hlen2:(((Bp.aB b).zipIdx.take t).flatMap (jo st pg px py i)).length<=1200:=by
    have h:=bT (jo st pg px py i) 2 ((Bp.aB b).zipIdx.take t) fun z _=>vh st pg px py i z
    rw [List.length_take,List.length_zipIdx] at h
    omega
   refine aH (PWX.pt (acj (p:=decide (tt.getD 0 0=pg)) (tw (i7 0 ct.cl ct.page (ab 9 rfl e12)) (ab (R:=cI) 1 rfl rfl)) (abg (p:=Bp.eF tt sz px py) (bn (aQ g2 (hr.mono (by decide)) (ad (R:=da kk.ct) (d:=tt) (ab 9 rfl e12) (ad (R:=cT cI) (d:=sz) (ab 8 rfl rsz12) (ad (R:=cI) (d:=px) (ab 2 rfl rfl) (ad (R:=cI) (d:=py) (ab 3 rfl rfl) ag)))) (uR sz (List.mem_of_getElem? hsz))))))) (fun hd H13 s13=>?_) (fun hd H13 s13=>?_)
   ·have hd':tt.getD 0 0=pg/\Bp.eF tt sz px py=true:=by
     rw [Bool.and_eq_true,decide_eq_true_iff] at hd
     exact hd
    have eo:jo st pg px py i (sz,t)=[(i:Int),(t:Int)]:=by
     unfold jo
     simp only [egt]
     rw [if_pos hd']
    have hq13:H13 qa=some (.lst zs'):=s13 _ _ hq12
    refine eJ (pa:=qa) (xs:=zs') (Pz:=fun ws H=>All cI K H ws [(i:Int),(t:Int)]) (ab (R:=cV) (K:=K) 4 rfl rfl) (PX.imp (bu (R:=cI) (ds:=[(i:Int),(t:Int)]) (ao (ab 5 rfl rfl) (ao (ab 7 rfl rfl) aJ)) (by show 2<=sizeLine;decide)) fun v H _ ⟨p,ws,e1,_,e2,e3⟩=>⟨p,ws,e1,e2,e3⟩) hq13 (fun ws H' s' zz=>Nat.le_of_lt (aab (by rw [hzt'.length,zz.length,List.length_append];show _+2<=100000;omega))) (fun ws H14 s14 zz=>?_)
    have h14:H14 qa=some (.lst zs'):=s14 _ _ hq13
    have sAll:=s11.trans (s12.trans (s13.trans s14))
    refine bj (bj ⟨htl,bK (s10.trans sAll) hq0,by rw [am nlz];exact sAll _ _ q10,(z10.mono sAll).put h14,zs'++ws,some (.int (t:Int)),some uz,some v12,rfl,aj,?_⟩)
    rw [fT _ hzi,<-List.append_assoc,eo]
    exact ((hzt'.mono sAll).put h14).append (zz.put h14)
   ·have hd':¬ (tt.getD 0 0=pg/\Bp.eF tt sz px py=true):=fun z=>by
     rw [decide_eq_true z.1,z.2] at hd
     cases hd
    have eo:jo st pg px py i (sz,t)=[]:=by
     unfold jo
     simp only [egt]
     rw [if_neg hd']
    have sAll:=s11.trans (s12.trans s13)
    refine bj ⟨htl,s10.trans sAll,sAll _ _ q10,z10.mono sAll,zs',some (.int (t:Int)),some uz,some v12,rfl,s13 _ _ hq12,?_⟩
    rw [fT _ hzi,eo,List.append_nil]
    exact hzt'.mono sAll
  ·rintro σ' H' ⟨_,s10,q10,z10,zs',o7,o8,o9,rfl,hqt',hzt'⟩
   refine bj ⟨(List.getElem?_eq_some_iff.mp hub).1,s10,zs',some (.int (i:Int)),some ub,o7,o8,o9,rfl,hqt',?_⟩
   have hbi:st.blocks.zipIdx[i]?=some (b,i):=by rw [List.getElem?_zipIdx,hb];simp
   rw [fT _ hbi]
   have e1:(Bp.aB b).zipIdx.length=(Bp.aB b).length:=List.length_zipIdx
   rw [<-e1,List.take_length] at hzt'
   exact hzt'
 ·rintro σ' H' ⟨_,s7,zs,o5,o6,o7,o8,o9,rfl,hqt,hzt⟩
  have e1:st.blocks.zipIdx.length=xb.length:=by rw [List.length_zipIdx,zb.length]
  rw [<-e1,List.take_length] at hzt
  exact ai (P:=cM cI K (atT st pg px py)) (ab 4 rfl ⟨qa,zs,rfl,hqt,hzt⟩) (fun v H9 s9 e9=>k v H9 (s7.trans s9) e9)
end
structure gS (K:PySem.W.Frag)(C:Addr):Prop where
 cl:Cls K C
 settings:aA K C "settings"
 blocks:aA K C "blocks"
 layout:aA K C "layout"
abbrev dcN:List Str:=["settings","blocks","layout"]
theorem adN:dcN.Nodup:=by decide +kernel
def dcF (vs vb vl:V):List (Str×V):=[("settings",vs),("blocks",vb),("layout",vl)]
theorem aeK {vs vb vl:V}(i:Nat){f:Str}{v:V}(h:(dcF vs vb vl)[i]?=some (f,v)):(dcF vs vb vl).lookup f=some v:=lk (ns:=dcN) i rfl adN h
def Fr (p:Addr)(H H':Hp):Prop:=∀ b o,H b=some o->b≠p->H' b=some o
theorem Fr.of {p:Addr}{H H':Hp}(s:Same H H'):Fr p H H':=fun b o e _=>s b o e
theorem Fr.trans {p:Addr}{H H1 H2:Hp}(a:Fr p H H1)(b:Fr p H1 H2):Fr p H H2:=fun c o e n=>b c o (a c o e n) n
theorem Fr.upd {p:Addr}{H:Hp}{o:HO}:Fr p H (upd H p o):=fun b u e n=>by rw [am n];exact e
structure aaU (kk:Kl)(K:PySem.W.Frag)(st:Vamatk.State)(vs vb vl:V)(H:Hp):Prop where
 s:cSt K st.settings vs H
 b:cL cBk K st.blocks vb H
 l:vl=.non\/cLy kk K st vl H
def aX (kk:Kl)(CD:Addr)(K:PySem.W.Frag)(pd dx:Addr)(st:Vamatk.State)(H:Hp):Prop:=∃ vs vb vl,H pd=some (.ins CD dx (dcF vs vb vl))/\aaU kk K st vs vb vl H
theorem aaU.mono {kk:Kl}{K:PySem.W.Frag}{st:Vamatk.State}{vs vb vl:V}{H H':Hp}(h:aaU kk K st vs vb vl H)(s:Same H H'):aaU kk K st vs vb vl H':=⟨Mono.mono s h.s,Mono.mono s h.b,h.l.imp id fun q=>Mono.mono s q⟩
theorem aX.mono {kk:Kl}{CD:Addr}{K:PySem.W.Frag}{pd dx:Addr}{st:Vamatk.State}{H H':Hp}(h:aX kk CD K pd dx st H)(s:Same H H'):aX kk CD K pd dx st H':=let ⟨vs,vb,vl,h1,h2⟩:=h;⟨vs,vb,vl,s _ _ h1,h2.mono s⟩
def cDc (kk:Kl)(CD:Addr):Rp Vamatk.State:=fun K st v H=>∃ pd dx,v=.ref pd/\aX kk CD K pd dx st H
instance {kk:Kl}{CD:Addr}:Mono (cDc kk CD):=⟨fun s ⟨pd,dx,e,h⟩=>⟨pd,dx,e,h.mono s⟩⟩
structure ApD (k:Kl)(C:Addr):Prop where
 ap:Apart k C
 cl:k.cl≠C
theorem yA {kk:Kl}{C:Addr}(ap:ApD kk C):Stay C (cLy kk):=⟨fun hx ⟨p,dx,vb,vl,vp,vs,e,h1,h2⟩=>⟨p,dx,vb,vl,vp,vs,e,by rw [am (b9 h1 hx (by intro z;injection z with z _ _;exact ap.cl z))];exact h1,
 ⟨(fV oG).st hx h2.b,(fV (yr ap.ap.cb)).st hx h2.l,(fV (yC ap.ap.cs)).st hx h2.p,(fV (aav (uQ ap.ap.ct))).st hx h2.s⟩⟩⟩
theorem tm {C:Addr}:Stay C cSt:=⟨fun hx h=>(abX abb).st hx h⟩
section
variable {P:Program}{w:World}{K:PySem.W.Frag}{mg:Str->Option Value}{base:Heap}{kk:Kl}{CD:Addr}
theorem dC {X:Cx}{σ:L2.St}{H:Hp}{e:Expr}{pos:Pos}{x dx:Addr}{vs vb vl:V}{f:Str}{u:V}{α:Type}{R:Rp α}[Mono R]{d:α}(i:Nat)(c:Cls X.K CD)(n:aA X.K CD f)(he:PX X σ H e (cV K (.ref x)))(hx:H x=some (.ins CD dx (dcF vs vb vl)))(hr:R K d u H)(hi:(dcF vs vb vl)[i]?=some (f,u):=by rfl)(hb:attributeBase e f X.env (eval e X.env)=eval e X.env:=by rfl):
  PX X σ H (.Attribute e f pos) (R K d):=sL c n he hx (aeK i hi) hr hb
theorem cDc.meth {st:Vamatk.State}{m:Str}(h:m ∉ dcN):∀ v H,cDc kk CD K st v H->∃ p dx fl,v=.ref p/\H p=some (.ins CD dx fl)/\fl.lookup m=none:=by
 rintro v H ⟨p,dx,e1,vs,vb,vl,e2,_⟩
 exact ⟨p,dx,_,e1,e2,lkn (ns:=dcN) rfl h⟩
theorem pO (n:Nat)(i:Int):Vamatk.isPlace n i=(decide (0<=i)&&decide (i < (n:Int))):=rfl
abbrev qz (K:PySem.W.Frag)(kk:Kl)(CD:Addr):Sp:=spF K (aC (cDc kk CD) (aC cI aN)) (fun _=>True) cB (fun d=>Vamatk.isPlace d.1.blocks.length d.2.1)
theorem t7 (F:aT K CD "has_block" "Document.has_block" bU ["self","i"])(c:gS K CD)(B:Blt mg):az P w K mg base CD "has_block" 1 (qz K kk CD):=by
 refine F.cal ja len2 (fun f cdv A outer s H vs Q E hr h=>?_)
 obtain ⟨⟨st,i,u⟩,⟨v,_,rfl,h1,v2,_,rfl,h2,rfl⟩,hp,k⟩:=h
 obtain ⟨pd,dx,rfl,vs,vb,vl,hx,dv⟩:=(show cDc kk CD K st v H from h1)
 exact ai (P:=cB K _) (lw kO vi (ax (K:=K)) (ab (R:=cI) 1 rfl h2) (dc (K:=K) (R:=cBk) (PX.toQ (dC 1 c.cl c.blocks (ay (K:=K) 0) hx dv.b)) B.len)) (fun v H9 s9 e9=>k v H9 s9 e9)
theorem yg {bs:List Vamatk.Block}{v:V}{H:Hp}(h:cL cBk K bs v H):cL (cT cI) K (bs.map Vamatk.numbersOf) v H:=by
 obtain ⟨a,xs,e,q,z⟩:=h
 refine ⟨a,xs,e,q,?_⟩
 clear q
 unfold All at z ⊢
 induction z with
 | nil=>exact .nil
 | cons r t ih=>exact .cons r ih
theorem aau (F:aT K CD "count" "Document.count" dz ["self"])(c:gS K CD)(N:Nums mg)(B:Blt mg)(g1:Cal P w K mg base "item_total" 3 (ui K)):az P w K mg base CD "count" 4 (spF K (aC (cDc kk CD) aN) (fun d=>Bp.Sound d.1) (cM cI) (fun d=>[0,(d.1.blocks.length:Int),(Vamatk.itemsIn d.1.blocks:Int)])):=by
 refine F.cal mC len1 (fun f cdv A outer s H vs Q E hr h=>?_)
 obtain ⟨⟨st,u⟩,⟨v,_,rfl,h1,rfl⟩,hp,k⟩:=h
 have so:Bp.Sound st:=hp
 obtain ⟨pd,dx,rfl,vs,vb,vl,hx,dv⟩:=(show cDc kk CD K st v H from h1)
 have many:=so.many
 have tot:Bp.de (st.blocks.map Vamatk.numbersOf)=(Vamatk.itemsIn st.blocks:Int):=Bp.Kept.total ⟨rfl,fun b hb=>(so.blocks b hb).2⟩
 refine ai (P:=cM cI K [0,(st.blocks.length:Int),(Vamatk.itemsIn st.blocks:Int)]) (PX.toM (bu (ao (R:=cI) (aD N.done) (ao (R:=cI) (dc (K:=K) (R:=cBk) (PX.toQ (dC 1 c.cl c.blocks (ay (K:=K) 0) hx dv.b)) B.len) (ao (R:=cI) (aQ g1 hr (ad (R:=cL (cT cI)) (d:=st.blocks.map Vamatk.numbersOf) (dC 1 c.cl c.blocks (ay (K:=K) 0) hx (yg dv.b)) ag) ⟨?_,?_⟩ tot) aJ))) (by show 3<=sizeLine;decide))) (fun v H9 s9 e9=>k v H9 s9 e9)
 ·show (st.blocks.map _).length<=1000
  rw [List.length_map]
  omega
 ·intro l hl
  obtain ⟨b,hb,rfl⟩:=List.mem_map.mp hl
  exact (b8.of so hb).long
def j4 (st:Vamatk.State)(i:Int):List Int:=if Vamatk.isPlace st.blocks.length i=false then [-5] else 0::((st.blocks[i.toNat]?).map Vamatk.numbersOf).getD []
theorem uV {b:Vamatk.Block}(o:b8 b):(Vamatk.numbersOf b).length<=4300:=by
 cases o.cases with
 | para f row e ne len good fr=>rw [e,Bp.aV];simp only [List.length_cons,Bp.bH];omega
 | disp y w h d e=>rw [e,Bp.bc];simp
theorem bz {n:Nat}{i:Int}(h:Vamatk.isPlace n i=true):∃ j:Nat,i=(j:Int)/\j < n:=by
 rw [pO,Bool.and_eq_true,decide_eq_true_iff,decide_eq_true_iff] at h
 exact ⟨i.toNat,by omega,by omega⟩
theorem aan (F:aT K CD "block" "Document.block" dl ["self","i"])(c:gS K CD)(N:Nums mg)(B:Blt mg)(g1:az P w K mg base CD "has_block" 1 (qz K kk CD)):az P w K mg base CD "block" 2 (spF K (aC (cDc kk CD) (aC cI aN)) (fun d=>Bp.Sound d.1) (cM cI) (fun d=>j4 d.1 d.2.1)):=by
 refine F.cal mW len2 (fun f cdv A outer s H vs Q E hr h=>?_)
 obtain ⟨⟨st,i,u⟩,⟨v,_,rfl,h1,v2,_,rfl,h2,rfl⟩,hp,k⟩:=h
 have so:Bp.Sound st:=hp
 have h2:cI K i v2 H:=h2
 have h1:cDc kk CD K st v H:=h1
 have k2:∀ (l:List Int) v H',Same H H'->l=j4 st i->cM cI K l v H'->Q v H':=fun l v H' s e h=>k v H' s (by rw [e] at h;exact h)
 refine aH (d:=!Vamatk.isPlace st.blocks.length i) (bN (bn (bM c.cl g1 hr (ab 0 rfl h1) (cDc.meth (by decide +kernel)) (ad (R:=cI) (d:=i) (ab 1 rfl h2) ag) trivial))) (fun hd H' s'=>?_) (fun hd H' s'=>?_)
 ·refine ai (P:=cM cI K [-5]) (PX.toM (bu (ao (R:=cI) (aD N.noBlock) aJ) (by show 1<=sizeLine;decide))) (fun v H9 s9 e9=>k2 _ v H9 (s'.trans s9) ?_ e9)
  unfold j4
  rw [if_pos (by simpa using hd)]
 ·have hd:Vamatk.isPlace st.blocks.length i=true:=by simpa using hd
  obtain ⟨j,rfl,hj⟩:=bz hd
  have gb:st.blocks[j]?=some (st.blocks[j]'hj):=List.getElem?_eq_getElem hj
  generalize eb:st.blocks[j]'hj=b at gb
  have hl:=uV (b8.of so (List.mem_of_getElem? gb))
  obtain ⟨pd,dx,rfl,vs,vb,vl,hx,dv⟩:=(Mono.mono s' h1:cDc kk CD K st v H')
  refine ai (P:=cM cI K ([0]++Vamatk.numbersOf b)) (PX.toM (pZ (R:=cI) (PX.toM (bu (ao (R:=cI) (aD N.done) aJ) (by show 1<=sizeLine;decide))) (PX.toM (yY (K:=K) (R:=cI) (PX.toQT (aI (K:=K) (R:=cBk) (PX.toQ (dC 1 c.cl c.blocks (ay (K:=K) 0) hx dv.b)) (ab (R:=cI) 1 rfl h2) (al rfl gb))) B.list acL)) (by show 1+_<=sizeLine;exact Nat.le_of_lt (oE (by omega))))) (fun v H9 s9 e9=>k2 _ v H9 (s'.trans s9) ?_ e9)
  unfold j4
  rw [hd,if_neg (by simp),Int.toNat_natCast,gb]
  rfl
theorem abK (a b c v:V):dZ "settings" v (dcF a b c)=dcF v b c:=by
 show (if (("settings":Str)="settings") then _ else _)=_
 rw [if_pos rfl]
 rfl
theorem adA (a b c v:V):dZ "blocks" v (dcF a b c)=dcF a v c:=by
 show (if (("settings":Str)="blocks") then _ else _::(if (("blocks":Str)="blocks") then _ else _))=_
 rw [if_neg (by decide +kernel),if_pos rfl]
 rfl
theorem adr (a b c v:V):dZ "layout" v (dcF a b c)=dcF a b v:=by
 show (if (("settings":Str)="layout") then _ else _::(if (("blocks":Str)="layout") then _ else _::(if (("layout":Str)="layout") then _ else _)))=_
 rw [if_neg (by decide +kernel),if_neg (by decide +kernel),if_pos rfl]
 rfl
abbrev j5 (CD:Addr):Sp:=fun vs H Q _=>∃ pd dx fl a b,vs=[.ref pd,a,b]/\H pd=some (.ins CD dx fl)/\(fl=[]\/∃ x y z,fl=dcF x y z)/\∀ H',H' pd=some (.ins CD dx (dcF a b .non))->Fr pd H H'->Q .non H'
theorem acq {X:Cx}{σ:L2.St}{H0:Hp}{j:Nat}{pos:Pos}:PX X σ H0 (.Constant .none j pos) (cV K .non):=bp adV fun H _ Q k=>k _ H (bi H) rfl
theorem ace (F:aT K CD "hold" "Document.hold" dM ["self","settings","blocks"])(c:gS K CD):az P w K mg base CD "hold" 1 (j5 CD):=by
 refine F.cal n4 (fun vs H Q E h=>?_) (fun f cdv A outer s H vs Q E hr h=>?_)
 ·obtain ⟨pd,dx,fl,a,b,rfl,_⟩:=h
  rfl
 ·obtain ⟨pd,dx,fl,a,b,rfl,hx,hfl,k⟩:=h
  have hlen:fl.length < 1000:=by
   rcases hfl with e | ⟨x,y,z,e⟩
   ·rw [e];exact (by decide:0 < 1000)
   ·rw [e];exact (by decide:3 < 1000)
  refine ka (P:=cV K a) (pa:=pd) (dx:=dx) (fl:=fl) c.cl c.settings (ay 1) (ab (R:=cV) (K:=K) 0 rfl rfl) hx hlen (fun v1 H1 s1 e1=>?_)
  have e1:v1=a:=e1
  subst e1
  refine ka (P:=cV K b) (pa:=pd) (dx:=dx) (fl:=dZ "settings" v1 fl) c.cl c.blocks (ay 2) (ab (R:=cV) (K:=K) 0 rfl rfl) aj ?_ (fun v2 H2 s2 e2=>?_)
  ·rcases hfl with e | ⟨x,y,z,e⟩
   ·rw [e];exact (by decide:1 < 1000)
   ·rw [e,abK];exact (by decide:3 < 1000)
  have e2:v2=b:=e2
  subst e2
  refine ka (P:=cV K .non) (pa:=pd) (dx:=dx) (fl:=dZ "blocks" v2 (dZ "settings" v1 fl)) c.cl c.layout acq (ab (R:=cV) (K:=K) 0 rfl rfl) aj ?_ (fun v3 H3 s3 e3=>?_)
  ·rcases hfl with e | ⟨x,y,z,e⟩
   ·rw [e]
    show (dZ "blocks" v2 [(("settings":Str),v1)]).length < 1000
    rw [gm (ns:=["settings"]) rfl (by decide +kernel)]
    exact (by decide:2 < 1000)
   ·rw [e,abK,adA];exact (by decide:3 < 1000)
  have e3:v3=.non:=e3
  subst e3
  refine bj (k _ ?_ ?_)
  ·rw [aj]
   congr 2
   rcases hfl with e | ⟨x,y,z,e⟩
   ·rw [e]
    show dZ "layout" .non (dZ "blocks" v2 [(("settings":Str),v1)])=_
    rw [gm (fl:=[(("settings":Str),v1)]) (ns:=["settings"]) rfl (by decide +kernel),gm (ns:=["settings","blocks"]) rfl (by decide +kernel)]
    rfl
   ·rw [e,abK,adA,adr]
  ·intro b' o e n
   rw [am n]
   refine s3 _ _ ?_
   rw [am n]
   refine s2 _ _ ?_
   rw [am n]
   exact s1 _ _ e
abbrev spD {α:Type}(K:PySem.W.Frag)(kk:Kl)(CD:Addr)(A:Ra α)(pre:Vamatk.State->α->Prop)(stp:Vamatk.State->α->Vamatk.State×List Int):Sp:=fun vs H Q _=>∃ pd dx st d ws,vs=.ref pd::ws/\aX kk CD K pd dx st H/\Bp.Sound st/\A K d ws H/\pre st d/\
 ∀ v H',cM cI K (stp st d).2 v H'->aX kk CD K pd dx (stp st d).1 H'->Fr pd H H'->Q v H'
theorem xw (F:aW K mg "without" jB ["blocks","i"]):Cal P w K mg base "without" 1 (spF K (aC (cL cBk) (aC aU aN)) (fun d=>d.1.length<=100/\d.2.1 < d.1.length) (cL cBk) (fun d=>d.1.eraseIdx d.2.1)):=by
 refine F.cal zT len2 (fun f cdv A outer s H vs Q E hr h=>?_)
 obtain ⟨⟨bs,i,u⟩,⟨v,_,rfl,h1,v2,_,rfl,h2,rfl⟩,hp,k⟩:=h
 obtain ⟨p1,p2⟩:bs.length<=100/\i < bs.length:=hp
 have h2:cI K (i:Int) v2 H:=h2
 have h1:cL cBk K bs v H:=h1
 refine ai (P:=cL cBk K (bs.eraseIdx i)) (PX.toL (PX.cast (R:=cF H cBk) (pZ (R:=cBk) (PX.toM (PX.cast (R:=cF H cBk) (eO (K:=K) (R:=cBk) (ab 0 rfl h1) cE (aS (K:=K) (ab 1 rfl h2))) (qM bs i))) (PX.toM (PX.cast (R:=cF H cBk) (eO (K:=K) (R:=cBk) (ab 0 rfl h1) (aS (K:=K) (aY (ab 1 rfl h2) ax)) cE) (ik bs (i+1)))) ?_) ?_)) (fun v H9 s9 e9=>k v H9 s9 e9)
 ·rw [List.length_take,List.length_drop]
  exact Nat.le_of_lt (a9 (by omega))
 ·rw [Bp.gf]
theorem rj (F:aW K mg "with_block" fQ ["blocks","i","block"]):Cal P w K mg base "with_block" 1 (spF K (aC (cL cBk) (aC aU (aC cBk aN))) (fun d=>d.1.length<=100/\d.2.1<=d.1.length) (cL cBk) (fun d=>d.1.take d.2.1++d.2.2.1::d.1.drop d.2.1)):=by
 refine F.cal uM len3 (fun f cdv A outer s H vs Q E hr h=>?_)
 obtain ⟨⟨bs,i,b,u⟩,⟨v,_,rfl,h1,v2,_,rfl,h2,v3,_,rfl,h3,rfl⟩,hp,k⟩:=h
 obtain ⟨p1,p2⟩:bs.length<=100/\i<=bs.length:=hp
 have h2:cI K (i:Int) v2 H:=h2
 have h1:cL cBk K bs v H:=h1
 have h3:cBk K b v3 H:=h3
 refine ai (P:=cL cBk K (bs.take i++b::bs.drop i)) (PX.toL (PX.cast (R:=cF H cBk) (pZ (R:=cBk) (PX.toM (pZ (R:=cBk) (PX.toM (PX.cast (R:=cF H cBk) (eO (K:=K) (R:=cBk) (ab 0 rfl h1) cE (aS (K:=K) (ab 1 rfl h2))) (qM bs i))) (PX.toM (bu (ao (R:=cBk) (d:=b) (ab 2 rfl h3) aJ) (by show 1<=sizeLine;decide))) ?_)) (PX.toM (PX.cast (R:=cF H cBk) (eO (K:=K) (R:=cBk) (ab 0 rfl h1) (aS (K:=K) (ab 1 rfl h2)) cE) (ik bs i))) ?_) ?_)) (fun v H9 s9 e9=>k v H9 s9 e9)
 ·rw [List.length_take]
  exact Nat.le_of_lt (a9 (by show _+1<=2000;omega))
 ·rw [List.length_append,List.length_take,List.length_drop]
  exact Nat.le_of_lt (a9 (by show _+1+_<=2000;omega))
 ·rw [List.append_assoc]
  rfl
theorem oB {X:Cx}{σ:L2.St}{H:Hp}{a b:Expr}{pos sp apos cpos:Pos}{D:Ends}{rest:List Stmt}{pd dx:Addr}{k:Nat}{st:Vamatk.State}{s':Vamatk.Settings}{bs':List Vamatk.Block}{pl:Sem Bool}(M:az X.prog X.w X.K X.mg X.base CD "hold" k (j5 CD))(c:Cls X.K CD)(hr:Room k X.A)(hd:aX kk CD K pd dx st H)(ha:PX X σ H a (cSt K s'))(hb:PX X σ H b (cL cBk K bs'))
  (h:∀ H',aX kk CD K pd dx ⟨s',bs'⟩ H'->Fr pd H H'->SX X D rest σ H')(hx:σ[0]?=some (some (.ref pd)):=by rfl)(hN:X.N[0]?=some ("self":Str):=by rfl)(hv':Vis X.env.scope "self":=by first | exact Or.inl rfl | exact Or.inr (Or.inl rfl) | exact Or.inr (Or.inr rfl))
  (hst:starEach [a,b] X.env=(false,eval a X.env)::starEach [b] X.env:=by rfl)(hst2:starEach [b] X.env=(false,eval b X.env)::starEach [] X.env:=by rfl)(hpl:(backTo cpos (starEach [b] X.env)).any (·.1)=false:=by rfl)
  (ht:eval (.Call (.Attribute (.Name "self" sp) "hold" apos) [a,b] [] cpos) X.env=(do
   let ov <-eval (.Name "self" sp) X.env
   standAt apos.atName
   let (f,first) <-holding [ov] (getMethod ov "hold" pl)
   callWith cpos f first (backTo cpos (starEach [a,b] X.env)) (backToKw cpos (keywordEach [] X.env))):=by rfl) (hsw:swapsWith (.Call (.Attribute (.Name "self" sp) "hold" apos) [a,b] [] cpos) none pos.line X.env=pure false:=by rfl):
  SX X D (.Expr (.Call (.Attribute (.Name "self" sp) "hold" apos) [a,b] [] cpos) pos::rest) σ H:=by
 obtain ⟨f,fd,ps,hM,hb',F⟩:=M.ex
 obtain ⟨vs,vb,vl,hpd,dv⟩:=hd
 have ho:PX X σ H (.Name "self" sp) (cV K (.ref pd)):=ab (R:=cV) 0 hx rfl hN hv'
 refine bh (kK (fL (pl:=pl) (E:=E0) (dvs:=[]) ah c hM F hr hb' .nil pass0 (aq ah (aq ah be hst2) hst) hst hpl ht) hsw) (ho.now fun v H1 s1 e1=>?_)
 have e1:v=.ref pd:=e1
 refine ⟨pd,dx,_,e1,s1 _ _ hpd,lkn (ns:=dcN) rfl (by decide +kernel),ha H1 s1 _ fun u H2 s2 e2=>hb H2 (s1.trans s2) _ fun t H3 s3 e3=>?_⟩
 rw [e1]
 have h3:H3 pd=some (.ins CD dx (dcF vs vb vl)):=s3 _ _ (s2 _ _ (s1 _ _ hpd))
 refine ⟨pd,dx,dcF vs vb vl,u,t,rfl,h3,.inr ⟨_,_,_,rfl⟩,fun H' hH' fr=>h H' ⟨u,t,.non,hH',?_⟩ ((Fr.of (s1.trans (s2.trans s3))).trans fr)⟩
 have keep:∀ {α:Type} {R:Rp α} {d:α} {y:V},(∀ {d y},R K d y H3->R K d y (fun b=>if b=pd then H' pd else H3 b))->[Mono R]->R K d y H3->R K d y H':=fun st m r=>Mono.mono (fun b o e=>by
  have e:(if b=pd then H' pd else H3 b)=some o:=e
  by_cases z:b=pd
  ·rw [if_pos z] at e
   rw [z]
   exact e
  ·rw [if_neg z] at e
   exact fr b o e z) (st r)
 have ue:∀ {α:Type} {R:Rp α} (S:Stay CD R) {d:α} {y:V},R K d y H3->R K d y (fun b=>if b=pd then H' pd else H3 b):=fun {α R} S {d y} r=>by
  have q:=S.st (o:=.ins CD dx (dcF u t .non)) h3 r
  have e:upd H3 pd (.ins CD dx (dcF u t .non))=fun b=>if b=pd then H' pd else H3 b:=by
   funext b
   unfold upd
   by_cases z:b=pd
   ·rw [if_pos z,if_pos z,hH']
   ·rw [if_neg z,if_neg z]
  rw [e] at q
  exact q
 exact ⟨keep (R:=cSt) (fun r=>ue tm r) (Mono.mono s3 e2),keep (R:=cL cBk) (fun r=>ue (fV oG) r) e3,.inl rfl⟩
end
def cSl:Rp Vamatk.Settings:=fun K s v H=>cL cI K (qk s) v H
theorem nH (s:Vamatk.Settings):Bp.aK (qk s) Bp.fh=Vamatk.goodSettings s:=by
 show (Vamati.within 0 100000000 s.measure&&(Vamati.within 0 100000000 s.indent&&(Vamati.within 0 1000000 s.lead&&(Vamati.within 0 1000000 s.gap&&(Vamati.within 0 100000000 s.page&&(Vamati.within (-1) 1000000 s.orphan&&true))))))=_
 rw [Bool.and_true]
 rfl
section
variable {P:Program}{w:World}{K:PySem.W.Frag}{mg:Str->Option Value}{base:Heap}{kk:Kl}{CD:Addr}
def ij (st:Vamatk.State)(d:Vamatk.Settings×Unit):Vamatk.State×List Int:=if Vamatk.goodSettings d.1=true then ({st with settings:=d.1},[0]) else (st,[-4])
theorem dt {X:Cx}{σ:L2.St}{H0:Hp}{e:Expr}{pos:Pos}{n:Int}(h:PX X σ H0 e (cI K n))(hs:starEach [e] X.env=(false,eval e X.env)::starEach [] X.env:=by rfl):PX X σ H0 (.List [e] pos) (cM cI K [n]):=PX.toM (bu (ao (R:=cI) h aJ hs) (by show 1<=sizeLine;decide))
theorem zU (F:aT K CD "settle" "Document.settle" c7 ["self","numbers"])(c:gS K CD)(N:Nums mg)(B:Blt mg)(T:Tups K mg)(g1:Cal P w K mg base "all_within" 1 (jl K))(g2:az P w K mg base CD "hold" 1 (j5 CD)):az P w K mg base CD "settle" 2 (spD K kk CD (aC cSl aN) (fun _ _=>True) ij):=by
 refine F.cal lv (fun vs H Q E h=>?_) (fun f cdv A outer s H vs Q E hr h=>?_)
 ·obtain ⟨pd,dx,st,d,ws,rfl,_,_,⟨v,_,rfl,_,rfl⟩,_⟩:=h
  rfl
 obtain ⟨pd,dx,st,⟨s',u⟩,ws,rfl,hd,so,⟨v,_,rfl,h1,rfl⟩,_,k⟩:=h
 have h1:cL cI K (qk s') v H:=h1
 refine aH (d:=!Vamatk.goodSettings s') (bN (bn (aQ g1 hr (ad (R:=cK true cI) (d:=qk s') (ab (R:=cL cI) 1 rfl h1) (ad (R:=cT (c2 cI cI)) (d:=Bp.fh) (vf T.setting) ag)) (by show 6 < 1000;decide) (nH s')))) (fun hd2 H' s2=>?_) (fun hd2 H' s2=>?_)
 ·have hg:¬ Vamatk.goodSettings s'=true:=by simpa using hd2
  have e:ij st (s',u)=(st,[-4]):=by unfold ij;rw [if_neg hg]
  rw [e] at k
  exact ai (P:=cM cI K [-4]) (dt (aD N.badSetting)) (fun v H9 s9 e9=>k v H9 e9 (hd.mono (s2.trans s9)) (Fr.of (s2.trans s9)))
 ·have hg:Vamatk.goodSettings s'=true:=by simpa using hd2
  have e:ij st (s',u)=({st with settings:=s'},[0]):=by unfold ij;rw [if_pos hg]
  rw [e] at k
  have hd':=hd.mono s2
  obtain ⟨vs,vb,vl,hpd,dv⟩:=id hd'
  refine oB (kk:=kk) (K:=K) (s':=s') (bs':=st.blocks) g2 c.cl hr hd' (pD (K:=K) (R:=cI) (PX.toQ (ab 1 rfl (Mono.mono s2 h1))) B.tuple wb) (dC 1 c.cl c.blocks (ay (K:=K) 0) hpd dv.b) fun H3 hd3 fr3=>?_
  exact ai (P:=cM cI K [0]) (dt (aD N.done)) (fun v H9 s9 e9=>k v H9 e9 (hd3.mono s9) ((Fr.of s2).trans (fr3.trans (Fr.of s9))))
structure aej (obs:List Vamatk.Block)(i:Nat)(l:List Int):Prop where
 bk:∀ b∈obs,b8 b
 many:obs.length<=60
 i:i<=obs.length
 len:l.length<=12000
def dL (st:Vamatk.State)(d:List Vamatk.Block×Nat×List Int×Unit):Vamatk.State×List Int:=Vamatk.withBlock st d.2.2.1 fun b=>d.1.take d.2.1++b::d.1.drop d.2.1
theorem vR (st:Vamatk.State){obs:List Vamatk.Block}{i:Nat}{l:List Int}(o:aej obs i l):(Bp.aZ l (obs.map Vamatk.numbersOf)≠0/\dL st (obs,i,l,())=(st,[Bp.aZ l (obs.map Vamatk.numbersOf)])) ∨
  (Bp.aZ l (obs.map Vamatk.numbersOf)=0/\∃ b,Vamatk.numbersOf b=l/\dL st (obs,i,l,())=(⟨st.settings,obs.take i++b::obs.drop i⟩,[0])):=by
 have ko:Bp.Kept (obs.map Vamatk.numbersOf) obs:=⟨rfl,fun b hb=>(o.bk b hb).told.of⟩
 unfold dL Bp.aZ Vamatk.withBlock
 simp only
 rw [Bp.vK]
 cases e:Vamatk.blockOf l with
 | none=>exact .inl ⟨(by decide:(-1:Int)≠0),rfl⟩
 | some b=>
  simp only [Option.isSome_some,Bool.true_eq_false,if_false]
  have t:=Bp.kv e
  rw [Bp.lK t]
  cases g:Vamatk.goodBlock b with
  | false=>exact .inl ⟨(by decide:(-2:Int)≠0),rfl⟩
  | true=>
   simp only [Bool.true_eq_false,if_false]
   have c1:(obs.take i++b::obs.drop i).length=obs.length+1:=by
    rw [List.length_append,List.length_cons,List.length_take,List.length_drop]
    omega
   have c2:Vamatk.itemsIn (obs.take i++b::obs.drop i)=Vamatk.itemsIn obs+Vamatk.itemCount b:=by
    rw [Bp.cx,Bp.bo]
    have:=Bp.cx (obs.take i) (obs.drop i)
    rw [List.take_append_drop] at this
    omega
   have c:(((obs.map Vamatk.numbersOf).length:Int)+1 > 60\/Bp.de (obs.map Vamatk.numbersOf)+Bp.itemCount l > 600) ↔ (Vamatk.MOSTBLOCKS < (obs.take i++b::obs.drop i).length\/Vamatk.MOSTITEMS < Vamatk.itemsIn (obs.take i++b::obs.drop i)):=by
    rw [c1,c2,ko.total,Bp.jr t,ko.length]
    show _ ↔ (60 < _\/600 < _)
    omega
   by_cases q:((obs.map Vamatk.numbersOf).length:Int)+1 > 60\/Bp.de (obs.map Vamatk.numbersOf)+Bp.itemCount l > 600
   ·rw [if_pos q,if_pos (c.mp q)]
    exact .inl ⟨by decide,rfl⟩
   ·rw [if_neg q,if_neg fun z=>q (c.mpr z)]
    exact .inr ⟨rfl,b,t.back,rfl⟩
abbrev oN (K:PySem.W.Frag)(kk:Kl)(CD:Addr):Sp:=spD K kk CD (aC (cL cBk) (aC aU (aC (cL cI) aN))) (fun _ d=>aej d.1 d.2.1 d.2.2.1) dL
abbrev yL (K:PySem.W.Frag):Sp:=spF K (aC (cL cBk) (aC aU (aC cBk aN))) (fun d=>d.1.length<=100/\d.2.1<=d.1.length) (cL cBk) (fun d=>d.1.take d.2.1++d.2.2.1::d.1.drop d.2.1)
theorem qi (F:aT K CD "place_among" "Document.place_among" bF ["self","others","i","numbers"])(c:gS K CD)(N:Nums mg)(B:Blt mg)(g1:Cal P w K mg base "block_refusal" 6 (sI K))(g2:az P w K mg base CD "hold" 1 (j5 CD))(g3:Cal P w K mg base "with_block" 1 (yL K)):az P w K mg base CD "place_among" 7 (oN K kk CD):=by
 refine F.cal eH (fun vs H Q E h=>?_) (fun f cdv A outer s H vs Q E hr h=>?_)
 ·obtain ⟨pd,dx,st,d,ws,rfl,_,_,⟨v,_,rfl,_,v2,_,rfl,_,v3,_,rfl,_,rfl⟩,_⟩:=h
  rfl
 obtain ⟨pd,dx,st,⟨obs,i,l,u⟩,ws,rfl,hd,so,⟨v,_,rfl,h1,v2,_,rfl,h2,v3,_,rfl,h3,rfl⟩,hp,k⟩:=h
 have hp:aej obs i l:=hp
 have h1:cL cBk K obs v H:=h1
 have h2:aU K i v2 H:=h2
 have h3:cL cI K l v3 H:=h3
 have nd:=eH.nd
 refine aF (i:=4) (P:=cI K (Bp.aZ l (obs.map Vamatk.numbersOf))) nd rfl (Or.inl rfl) (aQ g1 hr (ad (R:=cL cI) (d:=l) (ab 3 rfl h3) (ad (R:=cL (cT cI)) (d:=obs.map Vamatk.numbersOf) (ab 1 rfl (yg h1)) ag)) ⟨hp.len,?_,?_⟩) fun v5 H5 s5 e5=>?_
 ·show (obs.map _).length<=1000
  rw [List.length_map]
  have:=hp.many
  omega
 ·intro z hz
  obtain ⟨b,hb,rfl⟩:=List.mem_map.mp hz
  exact (hp.bk b hb).long
 rcases vR st hp with ⟨hne,es⟩ | ⟨he,b,hb,es⟩
 ·have es':dL st (obs,i,l,u)=_:=es
  rw [es'] at k
  refine aH (d:=!decide (Bp.aZ l (obs.map Vamatk.numbersOf)=0)) (abS (ab (R:=cI) 4 rfl e5) (aD N.done)) (fun hd2 H6 s6=>?_) (fun hd2 H6 s6=>?_)
  ·exact ai (P:=cM cI K [Bp.aZ l (obs.map Vamatk.numbersOf)]) (dt (ab (R:=cI) 4 rfl e5)) (fun v H9 s9 e9=>k v H9 e9 (hd.mono (s5.trans (s6.trans s9))) (Fr.of (s5.trans (s6.trans s9))))
  ·exact absurd (by simpa using hd2) hne
 ·have es':dL st (obs,i,l,u)=_:=es
  rw [es'] at k
  refine aH (d:=!decide (Bp.aZ l (obs.map Vamatk.numbersOf)=0)) (abS (ab (R:=cI) 4 rfl e5) (aD N.done)) (fun hd2 H6 s6=>?_) (fun hd2 H6 s6=>?_)
  ·rw [decide_eq_true he] at hd2
   cases hd2
  ·have s56:=s5.trans s6
   have hd6:=hd.mono s56
   obtain ⟨vs,vb,vl,hpd,dv⟩:=id hd6
   have h36:cL cI K (Vamatk.numbersOf b) v3 H6:=by rw [hb];exact Mono.mono s56 h3
   refine oB (kk:=kk) (K:=K) (s':=st.settings) (bs':=obs.take i++b::obs.drop i) g2 c.cl (hr.mono (by decide)) hd6 (dC 0 c.cl c.settings (ay (K:=K) 0) hpd dv.s) (aQ g3 (hr.mono (by decide)) (ad (R:=cL cBk) (d:=obs) (ab 1 rfl (Mono.mono s56 h1)) (ad (R:=aU) (d:=i) (ab 2 rfl h2) (ad (R:=cBk) (d:=b) (pD (K:=K) (R:=cI) (PX.toQ (ab 3 rfl h36)) B.tuple wb) ag))) ⟨by have:=hp.many;show obs.length<=100;omega,hp.i⟩) fun H7 hd7 fr7=>?_
   exact ai (P:=cM cI K [0]) (dt (aD N.done)) (fun v H9 s9 e9=>k v H9 e9 (hd7.mono s9) ((Fr.of s56).trans (fr7.trans (Fr.of s9))))
theorem tW {X:Cx}{σ:L2.St}{H:Hp}{e:Expr}{es:List Expr}{pos sp apos cpos:Pos}{D:Ends}{rest:List Stmt}{pd dx:Addr}{k:Nat}{st:Vamatk.State}{γ:Type}{A:Ra γ}{pre:Vamatk.State->γ->Prop}{stp:Vamatk.State->γ->Vamatk.State×List Int}{d:γ}{m:Str}{pl:Sem Bool}(M:az X.prog X.w X.K X.mg X.base CD m k (spD K kk CD A pre stp))(c:Cls X.K CD)(hr:Room k X.A)(hd:aX kk CD K pd dx st H)(so:Bp.Sound st)(hm:m ∉ dcN)(ha:PAX X σ H (e::es) (A K d))(hp:pre st d)
  (h:∀ v H',cM cI K (stp st d).2 v H'->aX kk CD K pd dx (stp st d).1 H'->Fr pd H H'->D.rt v H')(hx:σ[0]?=some (some (.ref pd)):=by rfl)(hN:X.N[0]?=some ("self":Str):=by rfl)(hv':Vis X.env.scope "self":=by first | exact Or.inl rfl | exact Or.inr (Or.inl rfl) | exact Or.inr (Or.inr rfl))
  (hst:starEach (e::es) X.env=(false,eval e X.env)::starEach es X.env:=by rfl)(hpl:(backTo cpos (starEach es X.env)).any (·.1)=false:=by rfl)
  (ht:eval (.Call (.Attribute (.Name "self" sp) m apos) (e::es) [] cpos) X.env=(do
   let ov <-eval (.Name "self" sp) X.env
   standAt apos.atName
   let (f,first) <-holding [ov] (getMethod ov m pl)
   callWith cpos f first (backTo cpos (starEach (e::es) X.env)) (backToKw cpos (keywordEach [] X.env))):=by rfl):
  SX X D (.Return (some (.Call (.Attribute (.Name "self" sp) m apos) (e::es) [] cpos)) pos::rest) σ H:=by
 obtain ⟨f,fd,ps,hM,hb',F⟩:=M.ex
 obtain ⟨t,h1,h2⟩:=ha
 obtain ⟨vs,vb,vl,hpd,dv⟩:=id hd
 have ho:PX X σ H (.Name "self" sp) (cV K (.ref pd)):=ab (R:=cV) 0 hx rfl hN hv'
 refine bh (lS (fL (pl:=pl) (E:=E0) (dvs:=[]) ah c hM F hr hb' .nil pass0 h1 hst hpl ht)) (ho.now fun v H1 s1 e1=>?_)
 have e1:v=.ref pd:=e1
 refine ⟨pd,dx,_,e1,s1 _ _ hpd,lkn (ns:=dcN) rfl hm,h2 H1 s1 _ fun us H2 s2 q=>?_⟩
 rw [e1,List.append_nil]
 exact ⟨pd,dx,st,d,us,rfl,hd.mono (s1.trans s2),so,q,hp,fun v H' a1 a2 a3=>h v H' a1 a2 ((Fr.of (s1.trans s2)).trans a3)⟩
def yO (st:Vamatk.State)(d:List Int×Unit):Vamatk.State×List Int:=Vamatk.step st (.add d.1)
theorem aer (F:aT K CD "add" "Document.add" eA ["self","numbers"])(c:gS K CD)(B:Blt mg)(g1:az P w K mg base CD "place_among" 7 (oN K kk CD)):az P w K mg base CD "add" 8 (spD K kk CD (aC (cL cI) aN) (fun _ d=>d.1.length<=12000) yO):=by
 refine F.cal qA (fun vs H Q E h=>?_) (fun f cdv A outer s H vs Q E hr h=>?_)
 ·obtain ⟨pd,dx,st,d,ws,rfl,_,_,⟨v,_,rfl,_,rfl⟩,_⟩:=h
  rfl
 obtain ⟨pd,dx,st,⟨l,u⟩,ws,rfl,hd,so,⟨v,_,rfl,h1,rfl⟩,hp,k⟩:=h
 have h1:cL cI K l v H:=h1
 have hp:l.length<=12000:=hp
 obtain ⟨vs,vb,vl,hpd,dv⟩:=id hd
 have es:dL st (st.blocks,st.blocks.length,l,())=yO st (l,u):=by
  unfold dL yO
  show Vamatk.withBlock st l _=Vamatk.withBlock st l _
  congr 1
  funext b
  simp only [List.take_length,List.drop_length]
 rw [<-es] at k
 refine tW (kk:=kk) (K:=K) (d:=(st.blocks,st.blocks.length,l,())) g1 c.cl hr hd so (by decide +kernel) (ad (R:=cL cBk) (dC 1 c.cl c.blocks (ay (K:=K) 0) hpd dv.b) (ad (R:=aU) (dc (K:=K) (R:=cBk) (PX.toQ (dC 1 c.cl c.blocks (ay (K:=K) 0) hpd dv.b)) B.len) (ad (R:=cL cI) (ab 1 rfl h1) ag))) ⟨fun b hb=>b8.of so hb,so.many,Nat.le_refl _,hp⟩ k
def qU (st:Vamatk.State)(d:Int×List Int×Unit):Vamatk.State×List Int:=Vamatk.step st (.put d.1 d.2.1)
theorem adO (F:aT K CD "put" "Document.put" et ["self","i","numbers"])(c:gS K CD)(N:Nums mg)(B:Blt mg)(g1:az P w K mg base CD "place_among" 7 (oN K kk CD)):az P w K mg base CD "put" 8 (spD K kk CD (aC cI (aC (cL cI) aN)) (fun _ d=>d.2.1.length<=12000) qU):=by
 refine F.cal qw (fun vs H Q E h=>?_) (fun f cdv A outer s H vs Q E hr h=>?_)
 ·obtain ⟨pd,dx,st,d,ws,rfl,_,_,⟨v,_,rfl,_,v2,_,rfl,_,rfl⟩,_⟩:=h
  rfl
 obtain ⟨pd,dx,st,⟨i,l,u⟩,ws,rfl,hd,so,⟨v,_,rfl,h0,v2,_,rfl,h1,rfl⟩,hp,k⟩:=h
 have h0:cI K i v H:=h0
 have h1:cL cI K l v2 H:=h1
 have hp:l.length<=12000:=hp
 obtain ⟨vs,vb,vl,hpd,dv⟩:=id hd
 have hpl:Vamatk.isPlace (st.blocks.length+1) i=(decide (0<=i)&&decide (i<=(st.blocks.length:Int))):=by
  rw [pO,Bool.eq_iff_iff]
  simp only [Bool.and_eq_true,decide_eq_true_iff]
  omega
 refine aH (d:=!Vamatk.isPlace (st.blocks.length+1) i) (bN (PTX.eq (sK kO kO (ax (K:=K)) (ab (R:=cI) 1 rfl h0) (dc (K:=K) (R:=cBk) (PX.toQ (dC 1 c.cl c.blocks (ay (K:=K) 0) hpd dv.b)) B.len)) hpl.symm)) (fun hd2 H' s2=>?_) (fun hd2 H' s2=>?_)
 ·have e:qU st (i,l,u)=(st,[-5]):=by
   unfold qU Vamatk.step
   simp only
   rw [if_pos (by simpa using hd2)]
  rw [e] at k
  exact ai (P:=cM cI K [-5]) (dt (aD N.noBlock)) (fun v H9 s9 e9=>k v H9 e9 (hd.mono (s2.trans s9)) (Fr.of (s2.trans s9)))
 ·have hq:Vamatk.isPlace (st.blocks.length+1) i=true:=by simpa using hd2
  obtain ⟨j,rfl,hj⟩:=bz hq
  have es:dL st (st.blocks,j,l,())=qU st ((j:Int),l,u):=by
   unfold dL qU Vamatk.step
   simp only
   rw [if_neg (by rw [hq];simp),Int.toNat_natCast]
  rw [<-es] at k
  refine tW (kk:=kk) (K:=K) (d:=(st.blocks,j,l,())) g1 c.cl hr (hd.mono s2) so (by decide +kernel) (ad (R:=cL cBk) (dC 1 c.cl c.blocks (ay (K:=K) 0) (s2 _ _ hpd) (Mono.mono s2 dv.b)) (ad (R:=aU) (ab 1 rfl h0) (ad (R:=cL cI) (ab 2 rfl (Mono.mono s2 h1)) ag))) ⟨fun b hb=>b8.of so hb,so.many,Nat.le_of_lt_succ hj,hp⟩ fun v H9 e9 a2 a3=>k v H9 e9 a2 ((Fr.of s2).trans a3)
abbrev mS (K:PySem.W.Frag):Sp:=spF K (aC (cL cBk) (aC aU aN)) (fun d=>d.1.length<=100/\d.2.1 < d.1.length) (cL cBk) (fun d=>d.1.eraseIdx d.2.1)
def gu (st:Vamatk.State)(d:Int×List Int×Unit):Vamatk.State×List Int:=Vamatk.step st (.change d.1 d.2.1)
theorem zn {α:Type}(l:List α)(i:Nat)(b:α)(h:i < l.length):l.set i b=(l.eraseIdx i).take i++b::(l.eraseIdx i).drop i:=by
 have h1:(l.take i).length=i:=by rw [List.length_take];omega
 rw [Bp.gf,List.set_eq_take_append_cons_drop,if_pos h,List.take_left' h1,List.drop_left' h1]
theorem z7 (F:aT K CD "change" "Document.change" cZ ["self","i","numbers"])(c:gS K CD)(N:Nums mg)(g0:az P w K mg base CD "has_block" 1 (qz K kk CD))(g1:az P w K mg base CD "place_among" 7 (oN K kk CD))(g2:Cal P w K mg base "without" 1 (mS K)):az P w K mg base CD "change" 8 (spD K kk CD (aC cI (aC (cL cI) aN)) (fun _ d=>d.2.1.length<=12000) gu):=by
 refine F.cal lE (fun vs H Q E h=>?_) (fun f cdv A outer s H vs Q E hr h=>?_)
 ·obtain ⟨pd,dx,st,d,ws,rfl,_,_,⟨v,_,rfl,_,v2,_,rfl,_,rfl⟩,_⟩:=h
  rfl
 obtain ⟨pd,dx,st,⟨i,l,u⟩,ws,rfl,hd,so,⟨v,_,rfl,h0,v2,_,rfl,h1,rfl⟩,hp,k⟩:=h
 have h0:cI K i v H:=h0
 have h1:cL cI K l v2 H:=h1
 have hp:l.length<=12000:=hp
 have many:=so.many
 obtain ⟨vs,vb,vl,hpd,dv⟩:=id hd
 refine aH (d:=!Vamatk.isPlace st.blocks.length i) (bN (bn (bM c.cl g0 (hr.mono (by decide)) (ab (R:=cDc kk CD) 0 rfl ⟨pd,dx,rfl,hd⟩) (cDc.meth (by decide +kernel)) (ad (R:=cI) (d:=i) (ab 1 rfl h0) ag) trivial))) (fun hd2 H' s2=>?_) (fun hd2 H' s2=>?_)
 ·have e:gu st (i,l,u)=(st,[-5]):=by
   unfold gu Vamatk.step
   simp only
   rw [if_pos (by simpa using hd2)]
  rw [e] at k
  exact ai (P:=cM cI K [-5]) (dt (aD N.noBlock)) (fun v H9 s9 e9=>k v H9 e9 (hd.mono (s2.trans s9)) (Fr.of (s2.trans s9)))
 ·have hq:Vamatk.isPlace st.blocks.length i=true:=by simpa using hd2
  obtain ⟨j,rfl,hj⟩:=bz hq
  have es:dL st (st.blocks.eraseIdx j,j,l,())=gu st ((j:Int),l,u):=by
   unfold dL gu Vamatk.step
   simp only
   rw [if_neg (by rw [hq];simp),Int.toNat_natCast]
   congr 1
   funext b
   rw [zn st.blocks j b hj]
  rw [<-es] at k
  have hel:=List.length_eraseIdx_of_lt hj
  refine tW (kk:=kk) (K:=K) (d:=(st.blocks.eraseIdx j,j,l,())) g1 c.cl hr (hd.mono s2) so (by decide +kernel) (ad (R:=cL cBk) (aQ g2 (hr.mono (by decide)) (ad (R:=cL cBk) (d:=st.blocks) (dC 1 c.cl c.blocks (ay (K:=K) 0) (s2 _ _ hpd) (Mono.mono s2 dv.b)) (ad (R:=aU) (d:=j) (ab 1 rfl h0) ag)) ⟨by show st.blocks.length<=100;omega,hj⟩) (ad (R:=aU) (ab 1 rfl h0) (ad (R:=cL cI) (ab 2 rfl (Mono.mono s2 h1)) ag))) ⟨fun b hb=>b8.of so (List.mem_of_mem_eraseIdx hb),by show (st.blocks.eraseIdx j).length<=60;omega,by show j<=(st.blocks.eraseIdx j).length;omega,hp⟩ fun v H9 e9 a2 a3=>k v H9 e9 a2 ((Fr.of s2).trans a3)
def ki (st:Vamatk.State)(d:Int×Unit):Vamatk.State×List Int:=Vamatk.step st (.take d.1)
theorem adh (F:aT K CD "take" "Document.take" dO ["self","i"])(c:gS K CD)(N:Nums mg)(g0:az P w K mg base CD "has_block" 1 (qz K kk CD))(g1:az P w K mg base CD "hold" 1 (j5 CD))(g2:Cal P w K mg base "without" 1 (mS K)):az P w K mg base CD "take" 2 (spD K kk CD (aC cI aN) (fun _ _=>True) ki):=by
 refine F.cal nQ (fun vs H Q E h=>?_) (fun f cdv A outer s H vs Q E hr h=>?_)
 ·obtain ⟨pd,dx,st,d,ws,rfl,_,_,⟨v,_,rfl,_,rfl⟩,_⟩:=h
  rfl
 obtain ⟨pd,dx,st,⟨i,u⟩,ws,rfl,hd,so,⟨v,_,rfl,h0,rfl⟩,hp,k⟩:=h
 have h0:cI K i v H:=h0
 have many:=so.many
 obtain ⟨vs,vb,vl,hpd,dv⟩:=id hd
 refine aH (d:=!Vamatk.isPlace st.blocks.length i) (bN (bn (bM c.cl g0 hr (ab (R:=cDc kk CD) 0 rfl ⟨pd,dx,rfl,hd⟩) (cDc.meth (by decide +kernel)) (ad (R:=cI) (d:=i) (ab 1 rfl h0) ag) trivial))) (fun hd2 H' s2=>?_) (fun hd2 H' s2=>?_)
 ·have e:ki st (i,u)=(st,[-5]):=by
   unfold ki Vamatk.step
   simp only
   rw [if_pos (by simpa using hd2)]
  rw [e] at k
  exact ai (P:=cM cI K [-5]) (dt (aD N.noBlock)) (fun v H9 s9 e9=>k v H9 e9 (hd.mono (s2.trans s9)) (Fr.of (s2.trans s9)))
 ·have hq:Vamatk.isPlace st.blocks.length i=true:=by simpa using hd2
  obtain ⟨j,rfl,hj⟩:=bz hq
  have es:ki st ((j:Int),u)=(⟨st.settings,st.blocks.eraseIdx j⟩,[0]):=by
   unfold ki Vamatk.step
   simp only
   rw [if_neg (by rw [hq];simp),Int.toNat_natCast]
  rw [es] at k
  refine oB (kk:=kk) (K:=K) (s':=st.settings) (bs':=st.blocks.eraseIdx j) g1 c.cl hr (hd.mono s2) (dC 0 c.cl c.settings (ay (K:=K) 0) (s2 _ _ hpd) (Mono.mono s2 dv.s)) (aQ g2 hr (ad (R:=cL cBk) (d:=st.blocks) (dC 1 c.cl c.blocks (ay (K:=K) 0) (s2 _ _ hpd) (Mono.mono s2 dv.b)) (ad (R:=aU) (d:=j) (ab 1 rfl h0) ag)) ⟨by show st.blocks.length<=100;omega,hj⟩) fun H3 hd3 fr3=>?_
  exact ai (P:=cM cI K [0]) (dt (aD N.done)) (fun v H9 s9 e9=>k v H9 e9 (hd3.mono s9) ((Fr.of s2).trans (fr3.trans (Fr.of s9))))
def j7 (st:Vamatk.State)(d:Int×Int×Unit):Vamatk.State×List Int:=Vamatk.step st (.move d.1 d.2.1)
theorem acw (F:aT K CD "move" "Document.move" dW ["self","i","j"])(c:gS K CD)(N:Nums mg)(g0:az P w K mg base CD "has_block" 1 (qz K kk CD))(g1:az P w K mg base CD "hold" 1 (j5 CD))(g2:Cal P w K mg base "without" 1 (mS K))(g3:Cal P w K mg base "with_block" 1 (yL K)):az P w K mg base CD "move" 2 (spD K kk CD (aC cI (aC cI aN)) (fun _ _=>True) j7):=by
 refine F.cal ol (fun vs H Q E h=>?_) (fun f cdv A outer s H vs Q E hr h=>?_)
 ·obtain ⟨pd,dx,st,d,ws,rfl,_,_,⟨v,_,rfl,_,v2,_,rfl,_,rfl⟩,_⟩:=h
  rfl
 obtain ⟨pd,dx,st,⟨i,j,u⟩,ws,rfl,hd,so,⟨v,_,rfl,h0,v2,_,rfl,h1,rfl⟩,hp,k⟩:=h
 have h0:cI K i v H:=h0
 have h1:cI K j v2 H:=h1
 have many:=so.many
 obtain ⟨vs,vb,vl,hpd,dv⟩:=id hd
 refine aH (PWX.pt (xF (p:=!Vamatk.isPlace st.blocks.length i) (bN (bn (bM c.cl g0 hr (ab (R:=cDc kk CD) 0 rfl ⟨pd,dx,rfl,hd⟩) (cDc.meth (by decide +kernel)) (ad (R:=cI) (d:=i) (ab 1 rfl h0) ag) trivial))) (t6 (p:=!Vamatk.isPlace st.blocks.length j) (bN (bn (bM c.cl g0 hr (ab (R:=cDc kk CD) 0 rfl ⟨pd,dx,rfl,hd⟩) (cDc.meth (by decide +kernel)) (ad (R:=cI) (d:=j) (ab 2 rfl h1) ag) trivial)))))) (fun hd2 H' s2=>?_) (fun hd2 H' s2=>?_)
 ·have e:j7 st (i,j,u)=(st,[-5]):=by
   unfold j7 Vamatk.step
   simp only
   rw [if_pos (by simpa using hd2)]
  rw [e] at k
  exact ai (P:=cM cI K [-5]) (dt (aD N.noBlock)) (fun v H9 s9 e9=>k v H9 e9 (hd.mono (s2.trans s9)) (Fr.of (s2.trans s9)))
 ·have hq:Vamatk.isPlace st.blocks.length i=true/\Vamatk.isPlace st.blocks.length j=true:=by simpa using hd2
  obtain ⟨a,rfl,ha⟩:=bz hq.1
  obtain ⟨b,rfl,hb⟩:=bz hq.2
  have ga:st.blocks[a]?=some (st.blocks[a]'ha):=List.getElem?_eq_getElem ha
  generalize ex:st.blocks[a]'ha=x at ga
  have hel:=List.length_eraseIdx_of_lt ha
  have es:j7 st ((a:Int),(b:Int),u)=(⟨st.settings,(st.blocks.eraseIdx a).take b++x::(st.blocks.eraseIdx a).drop b⟩,[0]):=by
   unfold j7 Vamatk.step
   simp only
   rw [if_neg (by rw [hq.1,hq.2];simp),Int.toNat_natCast,Int.toNat_natCast]
   unfold Vamatk.movedBlock
   rw [ga]
  rw [es] at k
  refine oB (kk:=kk) (K:=K) (s':=st.settings) (bs':=(st.blocks.eraseIdx a).take b++x::(st.blocks.eraseIdx a).drop b) g1 c.cl hr (hd.mono s2) (dC 0 c.cl c.settings (ay (K:=K) 0) (s2 _ _ hpd) (Mono.mono s2 dv.s)) (aQ g3 hr (ad (R:=cL cBk) (d:=st.blocks.eraseIdx a) (aQ g2 hr (ad (R:=cL cBk) (d:=st.blocks) (dC 1 c.cl c.blocks (ay (K:=K) 0) (s2 _ _ hpd) (Mono.mono s2 dv.b)) (ad (R:=aU) (d:=a) (ab 1 rfl h0) ag)) ⟨by show st.blocks.length<=100;omega,ha⟩) (ad (R:=aU) (d:=b) (ab 2 rfl h1) (ad (R:=cBk) (d:=x) (aI (K:=K) (R:=cBk) (PX.toQ (dC 1 c.cl c.blocks (ay (K:=K) 0) (s2 _ _ hpd) (Mono.mono s2 dv.b))) (ab (R:=cI) 1 rfl h0) (al rfl ga)) ag))) ⟨by show (st.blocks.eraseIdx a).length<=100;omega,by show b<=(st.blocks.eraseIdx a).length;omega⟩) fun H3 hd3 fr3=>?_
  exact ai (P:=cM cI K [0]) (dt (aD N.done)) (fun v H9 s9 e9=>k v H9 e9 (hd3.mono s9) ((Fr.of s2).trans (fr3.trans (Fr.of s9))))
end
section
variable {P:Program}{w:World}{K:PySem.W.Frag}{mg:Str->Option Value}{base:Heap}{kk:Kl}{CD:Addr}
abbrev gX (K:PySem.W.Frag)(kk:Kl)(CD:Addr):Sp:=fun vs H Q _=>∃ pd dx st,vs=[.ref pd]/\aX kk CD K pd dx st H/\Bp.Sound st/\∀ v H',cLy kk K st v H'->aX kk CD K pd dx st H'->Fr pd H H'->Q v H'
theorem vP (F:aT K CD "laid_out" "Document.laid_out" ck ["self"])(c:gS K CD)(ap:ApD kk CD)(g1:gz P w K mg base "Layout" kk.cl 9 (ady K kk)):az P w K mg base CD "laid_out" 11 (gX K kk CD):=by
 refine F.cal jN (fun vs H Q E h=>?_) (fun f cdv A outer s H vs Q E hr h=>?_)
 ·obtain ⟨pd,dx,st,rfl,_⟩:=h
  rfl
 obtain ⟨pd,dx,st,rfl,hd,so,k⟩:=h
 obtain ⟨vs,vb,vl,hpd,dv⟩:=id hd
 rcases dv.l with hn | hl
 ·subst hn
  refine aH (d:=true) (yf (PX.imp (dC (R:=cV) (d:=.non) 2 c.cl c.layout (ay (K:=K) 0) hpd rfl) fun v H _ e=>by rw [show v=.non from e];rfl)) (fun _ H' s'=>?_) (fun z=>by cases z)
  have hpd':=s' _ _ hpd
  have dv':=dv.mono s'
  refine ka (P:=cLy kk K st) (pa:=pd) (dx:=dx) (fl:=dcF vs vb .non) c.cl c.layout (tN (d:=(st.settings,st.blocks,())) g1 hr (ad (R:=cSt) (dC 0 c.cl c.settings (ay (K:=K) 0) hpd' dv'.s) (ad (R:=cL cBk) (dC 1 c.cl c.blocks (ay (K:=K) 0) hpd' dv'.b) ag)) so (fun y H _ e=>e)) (ab (R:=cV) (K:=K) 0 rfl rfl) hpd' (by show 3 < 1000;decide) (fun u H1 s1 e1=>?_)
  have hx1:H1 pd=some (.ins CD dx (dcF vs vb .non)):=s1 _ _ hpd'
  rw [adr]
  have ly:=(yA ap).st (o:=.ins CD dx (dcF vs vb u)) hx1 e1
  have dv1:=dv'.mono s1
  have dv2:aaU kk K st vs vb u (upd H1 pd (.ins CD dx (dcF vs vb u))):=⟨tm.st hx1 dv1.s,(fV oG).st hx1 dv1.b,.inr ly⟩
  have fr:Fr pd H (upd H1 pd (.ins CD dx (dcF vs vb u))):=(Fr.of (s'.trans s1)).trans Fr.upd
  refine bj (ai (P:=cLy kk K st) (dC 2 c.cl c.layout (ay (K:=K) 0) aj ly) (fun v H9 s9 e9=>k v H9 e9 (aX.mono ⟨vs,vb,u,aj,dv2⟩ s9) (fr.trans (Fr.of s9))))
 ·obtain ⟨p,dp,lb,ll,lp,ls,e,q1,q2⟩:=id hl
  refine aH (d:=false) (yf (PX.imp (dC (R:=cV) (d:=vl) 2 c.cl c.layout (ay (K:=K) 0) hpd rfl) fun v H _ e'=>by rw [show v=vl from e',e];rfl)) (fun z=>by cases z) (fun _ H' s'=>?_)
  exact ai (P:=cLy kk K st) (dC 2 c.cl c.layout (ay (K:=K) 0) (s' _ _ hpd) (Mono.mono s' hl)) (fun v H9 s9 e9=>k v H9 e9 (hd.mono (s'.trans s9)) (Fr.of (s'.trans s9)))
section
variable {X:Cx}{σ:L2.St}{H:Hp}{pos sp apos cpos apos2 cpos2 lpos npos:Pos}{D:Ends}{rest:List Stmt}{pd dx:Addr}{st:Vamatk.State}{Q:VK}{e:Expr}{es:List Expr}{m:Str}{γ δ:Type}{A:Ra γ}{U:Rp δ}{d':γ}{kM:Nat}
abbrev jT (sp apos cpos:Pos):Expr:=.Call (.Attribute (.Name "self" sp) "laid_out" apos) [] [] cpos
theorem yy {pl:Sem Bool}(M:az X.prog X.w X.K X.mg X.base CD "laid_out" 11 (gX K kk CD))(c:Cls X.K CD)(hr:Room 11 X.A)(hd:aX kk CD K pd dx st H)(so:Bp.Sound st)(k:∀ v H',cLy kk K st v H'->aX kk CD K pd dx st H'->Fr pd H H'->Q v H')(hx:σ[0]?=some (some (.ref pd)):=by rfl)(hN:X.N[0]?=some ("self":Str):=by rfl)(hv':Vis X.env.scope "self":=by first | exact Or.inl rfl | exact Or.inr (Or.inl rfl) | exact Or.inr (Or.inr rfl))
  (ht:eval (jT sp apos cpos) X.env=(do
   let ov <-eval (.Name "self" sp) X.env
   standAt apos.atName
   let (f,first) <-holding [ov] (getMethod ov "laid_out" pl)
   callWith cpos f first (backTo cpos (starEach [] X.env)) (backToKw cpos (keywordEach [] X.env))):=by rfl):EX X (jT sp apos cpos) σ H Q:=by
 obtain ⟨f,fd,ps,hM,hb',F⟩:=M.ex
 obtain ⟨vs,vb,vl,hpd,dv⟩:=id hd
 have ho:PX X σ H (.Name "self" sp) (cV K (.ref pd)):=ab (R:=cV) 0 hx rfl hN hv'
 refine oS (hZ (pl:=pl) (E:=E0) (dvs:=[]) ah c hM F hr hb' .nil pass0 ht) (ho.now fun v H1 s1 e1=>?_)
 have e1:v=.ref pd:=e1
 refine ⟨pd,dx,_,e1,s1 _ _ hpd,lkn (ns:=dcN) rfl (by decide +kernel),?_⟩
 rw [e1]
 exact ⟨pd,dx,st,rfl,hd.mono s1,so,fun v H' a1 a2 a3=>k v H' a1 a2 ((Fr.of s1).trans a3)⟩
theorem pE {pre:Vamatk.State×Unit->Prop}{g:Vamatk.State×Unit->δ}{pl pl2:Sem Bool}(L:az X.prog X.w X.K X.mg X.base CD "laid_out" 11 (gX K kk CD))(c:Cls X.K CD)(M:az X.prog X.w X.K X.mg X.base kk.cl m kM (spF K (aC (cLy kk) aN) pre U g))(cl:Cls X.K kk.cl)(hm:m ∉ lyN)(hr:Room 11 X.A)(hrM:Room kM X.A)(hd:aX kk CD K pd dx st H)(so:Bp.Sound st)(hp:pre (st,()))
  (k:∀ v H',U K (g (st,())) v H'->aX kk CD K pd dx st H'->Fr pd H H'->Q v H')(hx:σ[0]?=some (some (.ref pd)):=by rfl)(hN:X.N[0]?=some ("self":Str):=by rfl)(hv':Vis X.env.scope "self":=by first | exact Or.inl rfl | exact Or.inr (Or.inl rfl) | exact Or.inr (Or.inr rfl))
  (ht:eval (jT sp apos cpos) X.env=(do
   let ov <-eval (.Name "self" sp) X.env
   standAt apos.atName
   let (f,first) <-holding [ov] (getMethod ov "laid_out" pl)
   callWith cpos f first (backTo cpos (starEach [] X.env)) (backToKw cpos (keywordEach [] X.env))):=by rfl)
  (ht2:eval (.Call (.Attribute (jT sp apos cpos) m apos2) [] [] cpos2) X.env=(do
   let ov <-eval (jT sp apos cpos) X.env
   standAt apos2.atName
   let (f,first) <-holding [ov] (getMethod ov m pl2)
   callWith cpos2 f first (backTo cpos2 (starEach [] X.env)) (backToKw cpos2 (keywordEach [] X.env))):=by rfl):EX X (.Call (.Attribute (jT sp apos cpos) m apos2) [] [] cpos2) σ H Q:=by
 obtain ⟨f,fd,ps,hM,hb',F⟩:=M.ex
 refine oS (hZ (pl:=pl2) (E:=E0) (dvs:=[]) ah cl hM F hrM hb' .nil pass0 ht2) (yy L c hr hd so (fun v H1 a1 a2 a3=>?_) hx hN hv' ht)
 obtain ⟨p,dp,fl,e1,e2,e3⟩:=cLy.meth (K:=K) (kk:=kk) hm v H1 a1
 exact ⟨p,dp,fl,e1,e2,e3,(st,()),⟨v,[],rfl,a1,rfl⟩,hp,fun u H' s' h=>k u H' h (a2.mono s') (a3.trans (Fr.of s'))⟩
theorem oK {pre:Vamatk.State×γ->Prop}{g:Vamatk.State×γ->δ}{pl pl2:Sem Bool}(L:az X.prog X.w X.K X.mg X.base CD "laid_out" 11 (gX K kk CD))(c:Cls X.K CD)(M:az X.prog X.w X.K X.mg X.base kk.cl m kM (spF K (aC (cLy kk) A) pre U g))(cl:Cls X.K kk.cl)(hm:m ∉ lyN)(hr:Room 11 X.A)(hrM:Room kM X.A)(hd:aX kk CD K pd dx st H)(so:Bp.Sound st)(ha:PAX X σ (fun _=>none) (e::es) (A K d'))(hp:pre (st,d'))
  (k:∀ v H',U K (g (st,d')) v H'->aX kk CD K pd dx st H'->Fr pd H H'->Q v H')(hx:σ[0]?=some (some (.ref pd)):=by rfl)(hN:X.N[0]?=some ("self":Str):=by rfl)(hv':Vis X.env.scope "self":=by first | exact Or.inl rfl | exact Or.inr (Or.inl rfl) | exact Or.inr (Or.inr rfl))
  (ht:eval (jT sp apos cpos) X.env=(do
   let ov <-eval (.Name "self" sp) X.env
   standAt apos.atName
   let (f,first) <-holding [ov] (getMethod ov "laid_out" pl)
   callWith cpos f first (backTo cpos (starEach [] X.env)) (backToKw cpos (keywordEach [] X.env))):=by rfl)
  (hst:starEach (e::es) X.env=(false,eval e X.env)::starEach es X.env:=by rfl) (hpl:(backTo cpos2 (starEach es X.env)).any (·.1)=false:=by rfl)
  (ht2:eval (.Call (.Attribute (jT sp apos cpos) m apos2) (e::es) [] cpos2) X.env=(do
   let ov <-eval (jT sp apos cpos) X.env
   standAt apos2.atName
   let (f,first) <-holding [ov] (getMethod ov m pl2)
   callWith cpos2 f first (backTo cpos2 (starEach (e::es) X.env)) (backToKw cpos2 (keywordEach [] X.env))):=by rfl):EX X (.Call (.Attribute (jT sp apos cpos) m apos2) (e::es) [] cpos2) σ H Q:=by
 obtain ⟨f,fd,ps,hM,hb',F⟩:=M.ex
 obtain ⟨t,h1,h2⟩:=ha
 refine oS (fL (pl:=pl2) (E:=E0) (dvs:=[]) ah cl hM F hrM hb' .nil pass0 h1 hst hpl ht2) (yy L c hr hd so (fun v H1 a1 a2 a3=>?_) hx hN hv' ht)
 obtain ⟨p,dp,fl,e1,e2,e3⟩:=cLy.meth (K:=K) (kk:=kk) hm v H1 a1
 refine ⟨p,dp,fl,e1,e2,e3,h2 H1 (fun _ _ z=>nomatch z) _ fun us H2 s2 q=>?_⟩
 rw [List.append_nil]
 exact ⟨(st,d'),⟨v,us,rfl,Mono.mono s2 a1,q⟩,hp,fun u H' s' h=>k u H' h (a2.mono (s2.trans s')) (a3.trans (Fr.of (s2.trans s')))⟩
theorem jz {ans:List Int}{nm:Str}(hr0:PX X σ H (.Name nm npos) (cI K 0))(hpd:∃ fl,H pd=some (.ins CD dx fl))(hd:aX kk CD K pd dx st H)(he:∀ (H1:Hp) (Q:VK),Same H H1->(∀ v H',cM cI K ans v H'->aX kk CD K pd dx st H'->Fr pd H1 H'->Q v H')->EX X e σ H1 Q)(hn:ans.length<=100000)
  (k:∀ v H',cM cI K (0::ans) v H'->aX kk CD K pd dx st H'->Fr pd H H'->D.rt v H')(hs:starEach [Expr.Name nm npos] X.env=(false,eval (.Name nm npos) X.env)::starEach [] X.env:=by rfl){bpos:Pos}:
  SX X D (.Return (some (.BinOp (.List [.Name nm npos] lpos) .Add e bpos)) pos::rest) σ H:=by
 obtain ⟨fl,hfl⟩:=hpd
 refine bh (lS (uS abu ah ah)) ((bu (R:=cI) (K:=K) (ds:=[0]) (ao hr0 aJ hs) (by show 1<=sizeLine;decide)).now fun v H1 s1 e1=>?_)
 obtain ⟨p1,xs1,rfl,n1,q1,z1⟩:=e1
 have hne:p1≠pd:=fun z=>by rw [z,hfl] at n1;cases n1
 refine he H1 _ s1 fun y H2 a1 a2 a3=>?_
 obtain ⟨p2,xs2,rfl,q2,z2⟩:=a1
 have q12:=a3 _ _ q1 hne
 have z12:All cI K H2 xs1 [0]:=by
  have:=z1.ints
  rw [this]
  exact All.of_ints [0]
 refine ⟨p1,p2,xs1,xs2,rfl,rfl,q12,q2,by rw [z12.length,z2.length];exact Nat.le_of_lt (Nat.lt_of_le_of_lt (show 1+ans.length<=100001 by omega) (by decide)),fun p hp=>k _ _ ⟨p,_,rfl,aj,?_⟩ (a2.mono (a8 hp)) (((Fr.of s1).trans a3).trans (Fr.of (a8 hp)))⟩
 exact (z12.append z2).mono (a8 hp)
end
def iD (g:Vamatk.State->List Int)(st:Vamatk.State)(_:Unit):Vamatk.State×List Int:=(st,g st)
theorem abA (F:aT K CD "lines" "Document.lines" dA ["self"])(c:gS K CD)(cl:kn K kk.cl)(N:Nums mg)(L:az P w K mg base CD "laid_out" 11 (gX K kk CD))(M:az P w K mg base kk.cl "told_lines" 1 (spF K (aLy kk) (fun d=>Bp.Sound d.1) (cM cI) (fun d=>gk d.1))):az P w K mg base CD "lines" 12 (spD K kk CD aN (fun _ _=>True) (iD fun st=>0::gk st)):=by
 refine F.cal mF (fun vs H Q E h=>?_) (fun f cdv A outer s H vs Q E hr h=>?_)
 ·obtain ⟨pd,dx,st,d,ws,rfl,_,_,rfl,_⟩:=h
  rfl
 obtain ⟨pd,dx,st,u,ws,rfl,hd,so,rfl,hp,k⟩:=h
 have len:(gk st).length<=100000:=by
  unfold gk
  rw [eR _ 6 _ fun _ _=>rfl]
  have:=Bp.bx so
  omega
 refine jz (kk:=kk) (CD:=CD) (K:=K) (pd:=pd) (dx:=dx) (st:=st) (ans:=gk st) (aD N.done) (let ⟨vs,vb,vl,h,_⟩:=hd;⟨_,h⟩) hd (fun H1 Q1 s1 k1=>pE L c.cl M cl.cl (by decide +kernel) hr (hr.mono (by decide)) (hd.mono s1) so so k1) len (fun v H' a1 a2 a3=>k v H' a1 a2 a3)
theorem aaJ (F:aT K CD "pages" "Document.pages" dh ["self"])(c:gS K CD)(cl:kn K kk.cl)(N:Nums mg)(L:az P w K mg base CD "laid_out" 11 (gX K kk CD))(M:az P w K mg base kk.cl "told_pages" 1 (spF K (aLy kk) (fun d=>Bp.Sound d.1) (cM cI) (fun d=>eS d.1))):az P w K mg base CD "pages" 12 (spD K kk CD aN (fun _ _=>True) (iD fun st=>0::eS st)):=by
 refine F.cal mr (fun vs H Q E h=>?_) (fun f cdv A outer s H vs Q E hr h=>?_)
 ·obtain ⟨pd,dx,st,d,ws,rfl,_,_,rfl,_⟩:=h
  rfl
 obtain ⟨pd,dx,st,u,ws,rfl,hd,so,rfl,hp,k⟩:=h
 have len:(eS st).length<=100000:=by
  unfold eS
  rw [eR _ 4 _ fun _ _=>rfl]
  have:=iu so
  omega
 refine jz (kk:=kk) (CD:=CD) (K:=K) (pd:=pd) (dx:=dx) (st:=st) (ans:=eS st) (aD N.done) (let ⟨vs,vb,vl,h,_⟩:=hd;⟨_,h⟩) hd (fun H1 Q1 s1 k1=>pE L c.cl M cl.cl (by decide +kernel) hr (hr.mono (by decide)) (hd.mono s1) so so k1) len (fun v H' a1 a2 a3=>k v H' a1 a2 a3)
theorem aaz (F:aT K CD "worth" "Document.worth" dk ["self"])(c:gS K CD)(cl:kn K kk.cl)(N:Nums mg)(L:az P w K mg base CD "laid_out" 11 (gX K kk CD))(M:az P w K mg base kk.cl "told_worth" 1 (spF K (aLy kk) (fun d=>Bp.Sound d.1) (cM cI) (fun d=>gZ d.1))):az P w K mg base CD "worth" 12 (spD K kk CD aN (fun _ _=>True) (iD fun st=>0::gZ st)):=by
 refine F.cal l8 (fun vs H Q E h=>?_) (fun f cdv A outer s H vs Q E hr h=>?_)
 ·obtain ⟨pd,dx,st,d,ws,rfl,_,_,rfl,_⟩:=h
  rfl
 obtain ⟨pd,dx,st,u,ws,rfl,hd,so,rfl,hp,k⟩:=h
 refine jz (kk:=kk) (CD:=CD) (K:=K) (pd:=pd) (dx:=dx) (st:=st) (ans:=gZ st) (aD N.done) (let ⟨vs,vb,vl,h,_⟩:=hd;⟨_,h⟩) hd (fun H1 Q1 s1 k1=>pE L c.cl M cl.cl (by decide +kernel) hr (hr.mono (by decide)) (hd.mono s1) so so k1) (by show 5<=100000;decide) (fun v H' a1 a2 a3=>k v H' a1 a2 a3)
def acz (st:Vamatk.State)(d:Int×Int×Int×Unit):Vamatk.State×List Int:=(st,0::atT st d.1 d.2.1 d.2.2.1)
theorem acl {st:Vamatk.State}(so:Bp.Sound st)(p x y:Int):(atT st p x y).length<=100000:=by
 have h:=bT (fun z:Vamatk.Block×Nat=>Bp.d8 st p x y z.2 z.1) 1200 st.blocks.zipIdx fun z hz=>ku st p x y z.2 z.1 (b8.of so (List.mem_of_getElem? (Bp.fZ hz)))
 rw [List.length_zipIdx] at h
 have:=so.many
 unfold atT
 omega
theorem ae8 (F:aT K CD "at" "Document.at" fj ["self","page","x","y"])(c:gS K CD)(cl:kn K kk.cl)(N:Nums mg)(L:az P w K mg base CD "laid_out" 11 (gX K kk CD))(M:az P w K mg base kk.cl "told_at" 5 (spF K (aC (cLy kk) (aC cI (aC cI (aC cI aN)))) (fun d=>Bp.Sound d.1) (cM cI) (fun d=>atT d.1 d.2.1 d.2.2.1 d.2.2.2.1))):az P w K mg base CD "at" 12 (spD K kk CD (aC cI (aC cI (aC cI aN))) (fun _ _=>True) acz):=by
 refine F.cal rn (fun vs H Q E h=>?_) (fun f cdv A outer s H vs Q E hr h=>?_)
 ·obtain ⟨pd,dx,st,d,ws,rfl,_,_,⟨v,_,rfl,_,v2,_,rfl,_,v3,_,rfl,_,rfl⟩,_⟩:=h
  rfl
 obtain ⟨pd,dx,st,⟨a,b,e,u⟩,ws,rfl,hd,so,⟨v,_,rfl,h1,v2,_,rfl,h2,v3,_,rfl,h3,rfl⟩,hp,k⟩:=h
 have h1:v=.int a:=h1
 have h2:v2=.int b:=h2
 have h3:v3=.int e:=h3
 subst h1 h2 h3
 exact jz (kk:=kk) (CD:=CD) (K:=K) (pd:=pd) (dx:=dx) (st:=st) (ans:=atT st a b e) (aD N.done) (let ⟨vs,vb,vl,h,_⟩:=hd;⟨_,h⟩) hd (fun H1 Q1 s1 k1=>oK (d':=(a,b,e,())) L c.cl M cl.cl (by decide +kernel) hr (hr.mono (by decide)) (hd.mono s1) so (ad (R:=cI) (ab 1 rfl rfl) (ad (R:=cI) (ab 2 rfl rfl) (ad (R:=cI) (ab 3 rfl rfl) ag))) so k1) (acl so a b e) (fun v H' a1 a2 a3=>k v H' a1 a2 a3)
def fm (st:Vamatk.State)(d:Int×Unit):Vamatk.State×List Int:=(st,if Vamatk.isPlace st.blocks.length d.1=false then [-5] else 0::(Bp.spB st d.1.toNat).flatMap Bp.cy)
theorem y6 (F:aT K CD "places" "Document.places" cS ["self","i"])(c:gS K CD)(cl:kn K kk.cl)(N:Nums mg)(g0:az P w K mg base CD "has_block" 1 (qz K kk CD))(L:az P w K mg base CD "laid_out" 11 (gX K kk CD))(M:az P w K mg base kk.cl "told_places" 2 (spF K (aC (cLy kk) (aC aU aN)) (fun d=>Bp.Sound d.1/\d.2.1 < d.1.blocks.length) (cM cI) (fun d=>(Bp.spB d.1 d.2.1).flatMap Bp.cy))):az P w K mg base CD "places" 12 (spD K kk CD (aC cI aN) (fun _ _=>True) fm):=by
 refine F.cal kT (fun vs H Q E h=>?_) (fun f cdv A outer s H vs Q E hr h=>?_)
 ·obtain ⟨pd,dx,st,d,ws,rfl,_,_,⟨v,_,rfl,_,rfl⟩,_⟩:=h
  rfl
 obtain ⟨pd,dx,st,⟨i,u⟩,ws,rfl,hd,so,⟨v,_,rfl,h1,rfl⟩,hp,k⟩:=h
 have h1:v=.int i:=h1
 subst h1
 refine aH (d:=!Vamatk.isPlace st.blocks.length i) (bN (bn (bM c.cl g0 (hr.mono (by decide)) (ab (R:=cDc kk CD) 0 rfl ⟨pd,dx,rfl,hd⟩) (cDc.meth (by decide +kernel)) (ad (R:=cI) (d:=i) (ab 1 rfl rfl) ag) trivial))) (fun hd2 H' s2=>?_) (fun hd2 H' s2=>?_)
 ·have e:fm st (i,u)=(st,[-5]):=by
   unfold fm
   rw [if_pos (by simpa using hd2)]
  rw [e] at k
  exact ai (P:=cM cI K [-5]) (dt (aD N.noBlock)) (fun v H9 s9 e9=>k v H9 e9 (hd.mono (s2.trans s9)) (Fr.of (s2.trans s9)))
 ·have hq:Vamatk.isPlace st.blocks.length i=true:=by simpa using hd2
  obtain ⟨j,rfl,hj⟩:=bz hq
  have e:fm st ((j:Int),u)=(st,0::(Bp.spB st j).flatMap Bp.cy):=by
   unfold fm
   rw [if_neg (by rw [hq];simp)]
   simp only [Int.toNat_natCast]
  rw [e] at k
  have few:=uH so hj
  refine jz (kk:=kk) (CD:=CD) (K:=K) (pd:=pd) (dx:=dx) (st:=st) (ans:=(Bp.spB st j).flatMap Bp.cy) (aD N.done) (let ⟨vs,vb,vl,h,_⟩:=hd.mono s2;⟨_,h⟩) (hd.mono s2) (fun H1 Q1 s1 k1=>oK (d':=(j,())) L c.cl M cl.cl (by decide +kernel) hr (hr.mono (by decide)) (hd.mono (s2.trans s1)) so (ad (R:=aU) (ab 1 rfl rfl) ag) ⟨so,hj⟩ k1) (by rw [eR _ 3 _ fun _ _=>rfl];omega) fun v H9 a1 a2 a3=>k v H9 a1 a2 ((Fr.of s2).trans a3)
def cu (st:Vamatk.State)(d:Int×Int×Unit):Vamatk.State×List Int:=(st,if Vamatk.isPlace st.blocks.length d.1=false then [-5] else if 0<=d.2.1/\d.2.1 < (Bp.spB st d.1.toNat).length then 0::Bp.cy ((Bp.spB st d.1.toNat).getD d.2.1.toNat ⟨0,0,0,0,0,0,0,0⟩) else [-6])
abbrev zJ (K:PySem.W.Frag)(kk:Kl):Sp:=spF K (aC (cLy kk) (aC aU (aC cI aN))) (fun d=>d.2.1 < d.1.blocks.length) cB (fun d=>decide (0<=d.2.2.1)&&decide (d.2.2.1 < ((Bp.spB d.1 d.2.1).length:Int)))
abbrev v0 (K:PySem.W.Frag)(kk:Kl):Sp:=spF K (aC (cLy kk) (aC aU (aC aU aN))) (fun d=>d.2.1 < d.1.blocks.length/\d.2.2.1 < (Bp.spB d.1 d.2.1).length) (cM cI) (fun d=>Bp.cy ((Bp.spB d.1 d.2.1).getD d.2.2.1 ⟨0,0,0,0,0,0,0,0⟩))
theorem aaE (F:aT K CD "place" "Document.place" dg ["self","i","k"])(c:gS K CD)(cl:kn K kk.cl)(N:Nums mg)(g0:az P w K mg base CD "has_block" 1 (qz K kk CD))(L:az P w K mg base CD "laid_out" 11 (gX K kk CD))(M1:az P w K mg base kk.cl "has_item" 1 (zJ K kk))(M2:az P w K mg base kk.cl "told_place" 2 (v0 K kk)):az P w K mg base CD "place" 12 (spD K kk CD (aC cI (aC cI aN)) (fun _ _=>True) cu):=by
 refine F.cal mq (fun vs H Q E h=>?_) (fun f cdv A outer s H vs Q E hr h=>?_)
 ·obtain ⟨pd,dx,st,d,ws,rfl,_,_,⟨v,_,rfl,_,v2,_,rfl,_,rfl⟩,_⟩:=h
  rfl
 obtain ⟨pd,dx,st,⟨i,t,u⟩,ws,rfl,hd,so,⟨v,_,rfl,h1,v2,_,rfl,h2,rfl⟩,hp,k⟩:=h
 have h1:v=.int i:=h1
 have h2:v2=.int t:=h2
 subst h1 h2
 refine aH (d:=!Vamatk.isPlace st.blocks.length i) (bN (bn (bM c.cl g0 (hr.mono (by decide)) (ab (R:=cDc kk CD) 0 rfl ⟨pd,dx,rfl,hd⟩) (cDc.meth (by decide +kernel)) (ad (R:=cI) (d:=i) (ab 1 rfl rfl) ag) trivial))) (fun hd2 H' s2=>?_) (fun hd2 H' s2=>?_)
 ·have e:cu st (i,t,u)=(st,[-5]):=by
   unfold cu
   rw [if_pos (by simpa using hd2)]
  rw [e] at k
  exact ai (P:=cM cI K [-5]) (dt (aD N.noBlock)) (fun v H9 s9 e9=>k v H9 e9 (hd.mono (s2.trans s9)) (Fr.of (s2.trans s9)))
 ·have hq:Vamatk.isPlace st.blocks.length i=true:=by simpa using hd2
  obtain ⟨j,rfl,hj⟩:=bz hq
  refine bh (adB (ab4 (aaD ah (by intro _;rfl))) gp gp) ?_
  refine oK (kk:=kk) (K:=K) (U:=cB) (d':=(j,t,())) L c.cl M1 cl.cl (by decide +kernel) hr (hr.mono (by decide)) (hd.mono s2) so (ad (R:=aU) (ab 1 rfl rfl) (ad (R:=cI) (ab 2 rfl rfl) ag)) hj (fun v H3 e3 hd3 fr3=>?_)
  have e3:v=.bl (decide (0<=t)&&decide (t < ((Bp.spB st j).length:Int))):=e3
  refine ⟨_,e3,?_⟩
  have fr23:=(Fr.of (p:=pd) s2).trans fr3
  cases hb:(decide (0<=t)&&decide (t < ((Bp.spB st j).length:Int))) with
  | false=>
   have e:cu st ((j:Int),t,u)=(st,[-6]):=by
    unfold cu
    simp only [Int.toNat_natCast]
    rw [if_neg (by rw [hq];simp),if_neg]
    intro z
    rw [decide_eq_true z.1,decide_eq_true z.2] at hb
    cases hb
   rw [e] at k
   exact ai (P:=cM cI K [-6]) (dt (aD N.noItem)) (fun v H9 s9 e9=>k v H9 e9 (hd3.mono s9) (fr23.trans (Fr.of s9)))
  | true=>
   rw [Bool.and_eq_true,decide_eq_true_iff,decide_eq_true_iff] at hb
   obtain ⟨n,rfl⟩:∃ n:Nat,t=(n:Int):=⟨t.toNat,by omega⟩
   have e:cu st ((j:Int),(n:Int),u)=(st,0::Bp.cy ((Bp.spB st j).getD n ⟨0,0,0,0,0,0,0,0⟩)):=by
    unfold cu
    simp only [Int.toNat_natCast]
    rw [if_neg (by rw [hq];simp),if_pos hb]
   rw [e] at k
   refine bj (jz (kk:=kk) (CD:=CD) (K:=K) (pd:=pd) (dx:=dx) (st:=st) (ans:=Bp.cy ((Bp.spB st j).getD n ⟨0,0,0,0,0,0,0,0⟩)) (aD N.done) (let ⟨vs,vb,vl,h,_⟩:=hd3;⟨_,h⟩) hd3 (fun H1 Q1 s1 k1=>oK (d':=(j,n,())) L c.cl M2 cl.cl (by decide +kernel) hr (hr.mono (by decide)) (hd3.mono s1) so (ad (R:=aU) (ab 1 rfl rfl) (ad (R:=aU) (ab 2 rfl rfl) ag)) ⟨hj,by show n < (Bp.spB st j).length;omega⟩ k1) (by show 3<=100000;decide) fun v H9 a1 a2 a3=>k v H9 a1 a2 (fr23.trans a3))
abbrev su (K:PySem.W.Frag)(kk:Kl)(CD:Addr):Sp:=fun vs H Q _=>∃ x dx,vs=[.ref x]/\H x=some (.ins CD dx [])/\∀ H',aX kk CD K x dx Vamatk.start H'->Fr x H H'->Q .non H'
theorem wE (F:gr K mg "Document" CD "Document.__init__" cJ ["self"])(c:gS K CD)(T:Tups K mg)(g1:az P w K mg base CD "hold" 1 (j5 CD)):gz P w K mg base "Document" CD 2 (su K kk CD):=by
 refine F.cal nS (fun vs H Q E h=>?_) (fun f cdv A outer s H vs Q E hr h=>?_)
 ·obtain ⟨x,dx,rfl,_⟩:=h
  rfl
 obtain ⟨x,dx,rfl,hx,k⟩:=h
 obtain ⟨f',fd,ps,hM,hb',F'⟩:=g1.ex
 obtain ⟨an,hmn,hcn⟩:=T.atFirst
 have ho:PX (pK CX0 P w K mg base ["self"] "Document.__init__" (ae cJ) f cdv A outer s H E).nox (start ["self"] [.ref x]) H (.Name "self" ⟨0,0,0,0⟩) (cV K (.ref x)):=ay 0
 refine bh (kK (fL (E:=E0) (dvs:=[]) ah c.cl hM F' hr hb' .nil pass0 (aq ah (aq ah be))) rfl) ?_
 refine (ay (K:=K) 0).now fun v H1 s1 e1=>?_
 have e1:v=.ref x:=e1
 refine ⟨x,dx,[],e1,s1 _ _ hx,rfl,?_⟩
 refine (k3 (P:=cV K (.ref an)) (v:=.ref an) hmn rfl (fun _=>rfl)).now fun u H2 s2 e2=>?_
 refine (bu (R:=cBk) (K:=K) (ds:=[]) aJ (Nat.zero_le _)).now fun t H3 s3 e3=>?_
 have e2:u=.ref an:=e2
 subst e2
 rw [e1]
 obtain ⟨q,ys,rfl,n3,q3,z3⟩:=e3
 have hx3:H3 x=some (.ins CD dx []):=s3 _ _ (s2 _ _ (s1 _ _ hx))
 refine ⟨x,dx,[],.ref an,.ref q,rfl,hx3,.inl rfl,fun H' h' fr=>bj (k H' ⟨_,_,_,h',hcn H',⟨q,ys,rfl,SqL.of (fr _ _ q3 (b9 q3 hx3 (by intro z;cases z))),?_⟩,.inl rfl⟩ ((Fr.of (s1.trans (s2.trans s3))).trans fr))⟩
 cases z3
 exact .nil
end
structure CRd (K:PySem.W.Frag)(C:Addr):Prop where
 cl:Cls K C
 calls:aA K C "calls"
 position:aA K C "position"
abbrev rdN:List Str:=["calls","position"]
theorem ae1:rdN.Nodup:=by decide +kernel
def rdF (a:Addr)(p:Int):List (Str×V):=[("calls",.ref a),("position",.int p)]
theorem aaY {a:Addr}{p:Int}(i:Nat){f:Str}{v:V}(h:(rdF a p)[i]?=some (f,v)):(rdF a p).lookup f=some v:=lk (ns:=rdN) i rfl ae1 h
structure cz (CE:Addr)(K:PySem.W.Frag)(pr dr a:Addr)(l:List Int)(pos:Nat)(H:Hp):Prop where
 obj:H pr=some (.ins CE dr (rdF a pos))
 lst:SqL K H a (l.map V.int)
theorem cz.mono {CE:Addr}{K:PySem.W.Frag}{pr dr a:Addr}{l:List Int}{pos:Nat}{H H':Hp}(h:cz CE K pr dr a l pos H)(s:Same H H'):cz CE K pr dr a l pos H':=⟨s _ _ h.obj,s.seq h.lst⟩
theorem cz.cl {CE:Addr}{K:PySem.W.Frag}{pr dr a:Addr}{l:List Int}{pos:Nat}{H:Hp}(h:cz CE K pr dr a l pos H):cL cI K l (.ref a) H:=⟨a,_,rfl,h.lst,All.of_ints l⟩
def cRd (CE:Addr):Rp (List Int×Nat):=fun K d v H=>∃ pr dr a,v=.ref pr/\cz CE K pr dr a d.1 d.2 H
instance {CE:Addr}:Mono (cRd CE):=⟨fun s ⟨pr,dr,a,e,h⟩=>⟨pr,dr,a,e,h.mono s⟩⟩
theorem Stay.fr {C:Addr}{α:Type}{R:Rp α}[Mono R](S:Stay C R){K:PySem.W.Frag}{d:α}{v:V}{H H':Hp}{x dx:Addr}{fl:List (Str×V)}{o:HO}(hx:H x=some (.ins C dx fl))(hx':H' x=some o)(fr:Fr x H H')(r:R K d v H):R K d v H':=by
 refine Mono.mono (fun b u e=>?_) (S.st (o:=o) hx r)
 by_cases z:b=x
 ·subst z
  rw [aj] at e
  rw [hx',e]
 ·rw [am z] at e
  exact fr b u e z
theorem SqL.fr {C:Addr}{K:PySem.W.Frag}{H H':Hp}{x dx l:Addr}{fl:List (Str×V)}{xs:List V}(hx:H x=some (.ins C dx fl))(fr:Fr x H H')(q:SqL K H l xs):SqL K H' l xs:=by
 rcases q with (q | ⟨ob,q⟩) | q
 ·exact .inl (.inl (fr _ _ q (b9 q hx (by intro z;cases z))))
 ·exact .inl (.inr ⟨ob,fr _ _ q (b9 q hx (by intro z;cases z))⟩)
 ·exact .inr q
theorem aX.fr {kk:Kl}{CD CE:Addr}{K:PySem.W.Frag}{pd dx:Addr}{st:Vamatk.State}{H H':Hp}{x dx':Addr}{fl:List (Str×V)}{o:HO}(ap:ApD kk CE)(hne:CD≠CE)(h:aX kk CD K pd dx st H)(hx:H x=some (.ins CE dx' fl))(hx':H' x=some o)(fr:Fr x H H'):aX kk CD K pd dx st H':=by
 obtain ⟨vs,vb,vl,h1,dv⟩:=h
 refine ⟨vs,vb,vl,fr _ _ h1 (b9 h1 hx (by intro z;injection z with z _ _;exact hne z)),Stay.fr tm hx hx' fr dv.s,Stay.fr (fV oG) hx hx' fr dv.b,dv.l.imp id fun q=>Stay.fr (yA ap) hx hx' fr q⟩
theorem cz.fr {CD CE:Addr}{K:PySem.W.Frag}{pr dr a:Addr}{l:List Int}{pos:Nat}{H H':Hp}{x dx:Addr}{fl:List (Str×V)}(hne:CD≠CE)(h:cz CE K pr dr a l pos H)(hx:H x=some (.ins CD dx fl))(fr:Fr x H H'):cz CE K pr dr a l pos H':=
 ⟨fr _ _ h.obj (b9 h.obj hx (by intro z;injection z with z _ _;exact hne z.symm)),SqL.fr hx fr h.lst⟩
section
variable {P:Program}{w:World}{K:PySem.W.Frag}{mg:Str->Option Value}{base:Heap}{kk:Kl}{CD CE:Addr}
theorem zS (F:gr K mg "Reader" CE "Reader.__init__" ff ["self","calls"])(c:CRd K CE):gz P w K mg base "Reader" CE 1 (spJ K CE (aC (cL cI) aN) (fun _=>True) (fun d x H=>cRd CE K (d.1,0) (.ref x) H)):=by
 refine F.cal rM (fun vs H Q E h=>?_) (fun f cdv A outer s H vs Q E hr h=>?_)
 ·obtain ⟨x,dx,d,ws,Hb,rfl,_,_,_,⟨v1,_,rfl,_,rfl⟩,_⟩:=h
  rfl
 ·obtain ⟨x,dx,⟨l,u⟩,ws,Hb,rfl,hx,sb,nb,⟨v1,_,rfl,h1,rfl⟩,hp,k⟩:=h
  obtain ⟨a,xs,rfl,q,z⟩:=(show cL cI K l v1 Hb from h1)
  have ex:=z.ints
  subst ex
  refine bt (K:=K) (u:=.ref a) c.cl c.calls [] (Ob.start hx) (ay 1) (fun H1 o1 _=>?_) (by simp)
  refine bt (K:=K) (u:=.int 0) c.cl c.position ["calls"] o1 (ax (K:=K)) (fun H2 o2 _=>?_) (by decide +kernel)
  exact bj (k H2 ⟨x,dx,a,rfl,⟨o2.obj,(o2.base sb nb).seq q⟩⟩ (o2.base sb nb))
theorem ng {X:Cx}{σ:L2.St}{H:Hp}{e:Expr}{pos:Pos}{x dx a:Addr}{p:Int}{f:Str}{u:V}{α:Type}{R:Rp α}[Mono R]{d:α}(i:Nat)(c:Cls X.K CE)(n:aA X.K CE f)(he:PX X σ H e (cV K (.ref x)))(hx:H x=some (.ins CE dx (rdF a p)))(hr:R K d u H)(hi:(rdF a p)[i]?=some (f,u):=by rfl)(hb:attributeBase e f X.env (eval e X.env)=eval e X.env:=by rfl):
  PX X σ H (.Attribute e f pos) (R K d):=sL c n he hx (aaY i hi) hr hb
theorem cRd.meth {d:List Int×Nat}{m:Str}(h:m ∉ rdN):∀ v H,cRd CE K d v H->∃ p dx fl,v=.ref p/\H p=some (.ins CE dx fl)/\fl.lookup m=none:=by
 rintro v H ⟨p,dx,a,e1,e2⟩
 exact ⟨p,dx,_,e1,e2.obj,lkn (ns:=rdN) rfl h⟩
theorem z0 (F:aT K CE "at_end" "Reader.at_end" dJ ["self"])(c:CRd K CE)(B:Blt mg):az P w K mg base CE "at_end" 1 (spF K (aC (cRd CE) aN) (fun _=>True) cB (fun d=>decide ((d.1.1.length:Int)<=(d.1.2:Int)))):=by
 refine F.cal nD len1 (fun f cdv A outer s H vs Q E hr h=>?_)
 obtain ⟨⟨⟨l,pos⟩,u⟩,⟨v,_,rfl,h1,rfl⟩,hp,k⟩:=h
 obtain ⟨pr,dr,a,rfl,rd⟩:=(show cRd CE K (l,pos) v H from h1)
 exact ai (P:=cB K (decide ((l.length:Int)<=(pos:Int)))) (adG (ng (R:=cI) (d:=(pos:Int)) 1 c.cl c.position (ay (K:=K) 0) rd.obj rfl) (dc (K:=K) (R:=cI) (PX.toQ (ng 0 c.cl c.calls (ay (K:=K) 0) rd.obj rd.cl)) B.len)) (fun v H9 s9 e9=>k v H9 s9 e9)
theorem afC (a:Addr)(p q:Int):dZ "position" (.int q) (rdF a p)=rdF a q:=by
 show (if (("calls":Str)="position") then _ else _::(if (("position":Str)="position") then _ else _))=_
 rw [if_neg (by decide +kernel),if_pos rfl]
 rfl
theorem yQ {X:Cx}{σ:L2.St}{H:Hp}{e:Expr}{pos sp tpos:Pos}{D:Ends}{rest:List Stmt}{pr dr a:Addr}{l:List Int}{p n:Nat}(c:CRd X.K CE)(rd:cz CE K pr dr a l p H)(he:PX X σ H e (cI K (n:Int)))(k:∀ H',cz CE K pr dr a l (p+n) H'->Fr pr H H'->SX X D rest σ H')(hx:σ[0]?=some (some (.ref pr)):=by rfl)(hN:X.N[0]?=some ("self":Str):=by rfl)(hv':Vis X.env.scope "self":=by first | exact Or.inl rfl | exact Or.inr (Or.inl rfl) | exact Or.inr (Or.inr rfl)):
  SX X D (.AugAssign (.Attribute (.Name "self" sp) "position" tpos) .Add e pos::rest) σ H:=by
 have ho:PX X σ H (.Name "self" sp) (cV K (.ref pr)):=ab (R:=cV) 0 hx rfl hN hv'
 refine bh (aaf ah ah aeU) (ho.now fun v H1 s1 e1=>?_)
 have e1:v=.ref pr:=e1
 refine ⟨pr,CE,dr,_,.int p,e1,s1 _ _ rd.obj,c.cl,c.position,aaY 1 rfl,he H1 s1 _ fun y H2 s2 e2=>?_⟩
 have e2:y=.int (n:Int):=e2
 have o2:H2 pr=some (.ins CE dr (rdF a p)):=s2 _ _ (s1 _ _ rd.obj)
 refine ⟨p,n,rfl,e2,dr,_,o2,by show 2 < 1000;decide,?_⟩
 rw [afC,show ((p:Int)+(n:Int))=((p+n:Nat):Int) by omega]
 have fr:Fr pr H (upd H2 pr (.ins CE dr (rdF a ((p+n:Nat):Int)))):=(Fr.of (s1.trans s2)).trans Fr.upd
 exact k _ ⟨aj,SqL.fr rd.obj fr rd.lst⟩ fr
abbrev uY (K:PySem.W.Frag)(CE:Addr):Sp:=fun vs H Q _=>∃ pr dr a l pos x,vs=[.ref pr]/\cz CE K pr dr a l pos H/\l[pos]?=some x/\∀ H',cz CE K pr dr a l (pos+1) H'->Fr pr H H'->Q (.int x) H'
theorem y3 (F:aT K CE "number" "Reader.number" dN ["self"])(c:CRd K CE):az P w K mg base CE "number" 1 (uY K CE):=by
 refine F.cal nI (fun vs H Q E h=>?_) (fun f cdv A outer s H vs Q E hr h=>?_)
 ·obtain ⟨pr,dr,a,l,pos,x,rfl,_⟩:=h
  rfl
 obtain ⟨pr,dr,a,l,pos,x,rfl,rd,hx,k⟩:=h
 refine yQ (n:=1) c rd (ax (K:=K)) fun H1 rd1 fr1=>?_
 refine ai (P:=cI K x) (aI (K:=K) (R:=cI) (PX.toQ (ng 0 c.cl c.calls (ay (K:=K) 0) rd1.obj rd1.cl)) (bG (ng (R:=cI) (d:=((pos+1:Nat):Int)) 1 c.cl c.position (ay (K:=K) 0) rd1.obj rfl) ax) (al (j:=pos) (by omega) hx)) (fun v H9 s9 e9=>?_)
 have e9:v=.int x:=e9
 subst e9
 exact k H9 (rd1.mono s9) (fr1.trans (Fr.of s9))
abbrev uf (K:PySem.W.Frag)(CE:Addr):Sp:=fun vs H Q _=>∃ pr dr a l pos n,vs=[.ref pr,.int (n:Nat)]/\cz CE K pr dr a l pos H/\pos+n<=l.length/\∀ v H',cM cI K ((l.take (pos+n)).drop pos) v H'->cz CE K pr dr a l (pos+n) H'->Fr pr H H'->Q v H'
theorem wV (F:aT K CE "numbers" "Reader.numbers" cv ["self","size"])(c:CRd K CE):az P w K mg base CE "numbers" 1 (uf K CE):=by
 refine F.cal mn (fun vs H Q E h=>?_) (fun f cdv A outer s H vs Q E hr h=>?_)
 ·obtain ⟨pr,dr,a,l,pos,n,rfl,_⟩:=h
  rfl
 obtain ⟨pr,dr,a,l,pos,n,rfl,rd,hn,k⟩:=h
 refine yQ (n:=n) c rd (ab (R:=cI) (K:=K) 1 rfl rfl) fun H1 rd1 fr1=>?_
 have ps:PX (pK CX0 P w K mg base ["self","size"] "Reader.numbers" (ae cv) f cdv A outer s H E).nox (start ["self","size"] [.ref pr,.int (n:Nat)]) H1 (.Attribute (.Name "self" ⟨0,0,0,0⟩) "position" ⟨0,0,0,0⟩) (cI K ((pos+n:Nat):Int)):=ng (R:=cI) 1 c.cl c.position (ay (K:=K) 0) rd1.obj rfl
 exact ai (P:=cM cI K ((l.take (pos+n)).drop pos)) (PX.toM (PX.cast (R:=cF H1 cI) (eO (K:=K) (R:=cI) (ng 0 c.cl c.calls (ay (K:=K) 0) rd1.obj rd1.cl) (aS (K:=K) (bG (ng (R:=cI) (d:=((pos+n:Nat):Int)) 1 c.cl c.position (ay (K:=K) 0) rd1.obj rfl) (ab (R:=cI) 1 rfl rfl))) (aS (K:=K) (ng (R:=cI) (d:=((pos+n:Nat):Int)) 1 c.cl c.position (ay (K:=K) 0) rd1.obj rfl))) (l7 l (a:=pos) (b:=pos+n) (by omega) rfl))) (fun v H9 s9 e9=>k v H9 e9 (rd1.mono s9) (fr1.trans (Fr.of s9)))
section
variable {X:Cx}{σ:L2.St}{H:Hp}{pos sp apos cpos:Pos}{pr dr a:Addr}{l:List Int}{p:Nat}{Q:VK}{nm:Str}{i:Nat}
theorem iA {pl:Sem Bool}{x:Int}(M:az X.prog X.w X.K X.mg X.base CE "number" 1 (uY K CE))(c:Cls X.K CE)(hr:Room 1 X.A)(rd:cz CE K pr dr a l p H)(hx:l[p]?=some x)(k:∀ H',cz CE K pr dr a l (p+1) H'->Fr pr H H'->Q (.int x) H')(hv:σ[i]?=some (some (.ref pr)):=by rfl)(hN:X.N[i]?=some nm:=by rfl)(hv':Vis X.env.scope nm:=by first | exact Or.inl rfl | exact Or.inr (Or.inl rfl) | exact Or.inr (Or.inr rfl))(hd:(nm == ("__debug__":Str))=false:=by decide)(hcd:(nm == ("__classdict__":Str))=false:=by decide)
  (ht:eval (.Call (.Attribute (.Name nm sp) "number" apos) [] [] cpos) X.env=(do
   let ov <-eval (.Name nm sp) X.env
   standAt apos.atName
   let (f,first) <-holding [ov] (getMethod ov "number" pl)
   callWith cpos f first (backTo cpos (starEach [] X.env)) (backToKw cpos (keywordEach [] X.env))):=by rfl):EX X (.Call (.Attribute (.Name nm sp) "number" apos) [] [] cpos) σ H Q:=by
 obtain ⟨f,fd,ps,hM,hb',F⟩:=M.ex
 have ho:PX X σ H (.Name nm sp) (cV K (.ref pr)):=ab (R:=cV) i hv rfl hN hv' hd hcd
 refine oS (hZ (pl:=pl) (E:=E0) (dvs:=[]) ah c hM F hr hb' .nil pass0 ht) (ho.now fun v H1 s1 e1=>?_)
 have e1:v=.ref pr:=e1
 refine ⟨pr,dr,_,e1,s1 _ _ rd.obj,lkn (ns:=rdN) rfl (by decide +kernel),?_⟩
 rw [e1]
 exact ⟨pr,dr,a,l,p,x,rfl,rd.mono s1,hx,fun H' a1 a2=>k H' a1 ((Fr.of s1).trans a2)⟩
theorem acN {pl:Sem Bool}{n:Nat}{e:Expr}(M:az X.prog X.w X.K X.mg X.base CE "numbers" 1 (uf K CE))(c:Cls X.K CE)(hr:Room 1 X.A)(rd:cz CE K pr dr a l p H)(he:∀ H1 Q1,Same H H1->(∀ H2 q,q=p->cz CE K pr dr a l q H2->Fr pr H1 H2->Q1 (.int (n:Nat)) H2)->EX X e σ H1 Q1)(hn:p+n<=l.length)(k:∀ v H',cM cI K ((l.take (p+n)).drop p) v H'->cz CE K pr dr a l (p+n) H'->Fr pr H H'->Q v H')(hv:σ[i]?=some (some (.ref pr)):=by rfl)(hN:X.N[i]?=some nm:=by rfl)(hv':Vis X.env.scope nm:=by first | exact Or.inl rfl | exact Or.inr (Or.inl rfl) | exact Or.inr (Or.inr rfl))(hd:(nm == ("__debug__":Str))=false:=by decide)(hcd:(nm == ("__classdict__":Str))=false:=by decide)
  (hst:starEach [e] X.env=(false,eval e X.env)::starEach [] X.env:=by rfl)
  (ht:eval (.Call (.Attribute (.Name nm sp) "numbers" apos) [e] [] cpos) X.env=(do
   let ov <-eval (.Name nm sp) X.env
   standAt apos.atName
   let (f,first) <-holding [ov] (getMethod ov "numbers" pl)
   callWith cpos f first (backTo cpos (starEach [e] X.env)) (backToKw cpos (keywordEach [] X.env))):=by rfl):EX X (.Call (.Attribute (.Name nm sp) "numbers" apos) [e] [] cpos) σ H Q:=by
 obtain ⟨f,fd,ps,hM,hb',F⟩:=M.ex
 have ho:PX X σ H (.Name nm sp) (cV K (.ref pr)):=ab (R:=cV) i hv rfl hN hv' hd hcd
 refine oS (fL (pl:=pl) (E:=E0) (dvs:=[]) ah c hM F hr hb' .nil pass0 (aq ah be hst) hst rfl ht) (ho.now fun v H1 s1 e1=>?_)
 have e1:v=.ref pr:=e1
 refine ⟨pr,dr,_,e1,s1 _ _ rd.obj,lkn (ns:=rdN) rfl (by decide +kernel),he H1 _ s1 fun H2 q eq rd2 fr2=>?_⟩
 subst eq
 rw [e1]
 exact ⟨pr,dr,a,l,q,n,rfl,rd2,hn,fun v H' a1 a2 a3=>k v H' a1 a2 ((Fr.of s1).trans (fr2.trans a3))⟩
end
abbrev abF (K:PySem.W.Frag)(CE:Addr):Sp:=fun vs H Q _=>∃ pr dr a l pos n,vs=[.ref pr]/\cz CE K pr dr a l pos H/\l[pos]?=some ((n:Nat):Int)/\pos+1+n<=l.length/\∀ v H',cM cI K ((l.take (pos+1+n)).drop (pos+1)) v H'->cz CE K pr dr a l (pos+1+n) H'->Fr pr H H'->Q v H'
theorem ad2 (F:aT K CE "row" "Reader.row" fS ["self"])(c:CRd K CE)(g1:az P w K mg base CE "number" 1 (uY K CE))(g2:az P w K mg base CE "numbers" 1 (uf K CE)):az P w K mg base CE "row" 2 (abF K CE):=by
 refine F.cal tD (fun vs H Q E h=>?_) (fun f cdv A outer s H vs Q E hr h=>?_)
 ·obtain ⟨pr,dr,a,l,pos,n,rfl,_⟩:=h
  rfl
 obtain ⟨pr,dr,a,l,pos,n,rfl,rd,hx,hn,k⟩:=h
 obtain ⟨f',fd,ps,hM,hb',F'⟩:=g2.ex
 refine bh (lS (fL (E:=E0) (dvs:=[]) ah c.cl hM F' hr hb' .nil pass0 (aq ah be))) ?_
 refine (ay (K:=K) 0).now fun v H1 s1 e1=>?_
 have e1:v=.ref pr:=e1
 refine ⟨pr,dr,_,e1,s1 _ _ rd.obj,lkn (ns:=rdN) rfl (by decide +kernel),?_⟩
 refine iA (i:=0) g1 c.cl hr (rd.mono s1) hx fun H2 rd2 fr2=>?_
 rw [e1]
 exact ⟨pr,dr,a,l,pos+1,n,rfl,rd2,hn,fun v H' a1 a2 a3=>k v H' a1 a2 ((Fr.of s1).trans (fr2.trans a3))⟩
section
variable {X:Cx}{σ:L2.St}{H:Hp}{pos sp apos cpos:Pos}{pr dr a:Addr}{l:List Int}{p:Nat}{Q:VK}{nm:Str}{i:Nat}
theorem wU {pl:Sem Bool}{n:Nat}(M:az X.prog X.w X.K X.mg X.base CE "row" 2 (abF K CE))(c:Cls X.K CE)(hr:Room 2 X.A)(rd:cz CE K pr dr a l p H)(hx:l[p]?=some ((n:Nat):Int))(hn:p+1+n<=l.length)(k:∀ v H',cM cI K ((l.take (p+1+n)).drop (p+1)) v H'->cz CE K pr dr a l (p+1+n) H'->Fr pr H H'->Q v H')(hv:σ[i]?=some (some (.ref pr)):=by rfl)(hN:X.N[i]?=some nm:=by rfl)(hv':Vis X.env.scope nm:=by first | exact Or.inl rfl | exact Or.inr (Or.inl rfl) | exact Or.inr (Or.inr rfl))(hd:(nm == ("__debug__":Str))=false:=by decide)(hcd:(nm == ("__classdict__":Str))=false:=by decide)
  (ht:eval (.Call (.Attribute (.Name nm sp) "row" apos) [] [] cpos) X.env=(do
   let ov <-eval (.Name nm sp) X.env
   standAt apos.atName
   let (f,first) <-holding [ov] (getMethod ov "row" pl)
   callWith cpos f first (backTo cpos (starEach [] X.env)) (backToKw cpos (keywordEach [] X.env))):=by rfl):EX X (.Call (.Attribute (.Name nm sp) "row" apos) [] [] cpos) σ H Q:=by
 obtain ⟨f,fd,ps,hM,hb',F⟩:=M.ex
 have ho:PX X σ H (.Name nm sp) (cV K (.ref pr)):=ab (R:=cV) i hv rfl hN hv' hd hcd
 refine oS (hZ (pl:=pl) (E:=E0) (dvs:=[]) ah c hM F hr hb' .nil pass0 ht) (ho.now fun v H1 s1 e1=>?_)
 have e1:v=.ref pr:=e1
 refine ⟨pr,dr,_,e1,s1 _ _ rd.obj,lkn (ns:=rdN) rfl (by decide +kernel),?_⟩
 rw [e1]
 exact ⟨pr,dr,a,l,p,n,rfl,rd.mono s1,hx,hn,fun v H' a1 a2 a3=>k v H' a1 a2 ((Fr.of s1).trans a3)⟩
end
end
theorem kC (st:Vamatk.State):0::eS st=Vamatk.pagesAnswer st:=by
 unfold Vamatk.pagesAnswer
 refine congrArg (List.cons (0:Int)) ?_
 unfold eS eP Bp.bC
 rw [List.flatMap_map]
 refine Bp.bL fun p _=>?_
 have e:Vamati.roomOf (Vamatk.pageMeasure st.settings) p.1=st.settings.page:=by
  unfold Vamati.roomOf Vamatk.pageMeasure
  split<;>simp
 show [((p.1:Nat):Int),((p.2:Nat):Int),_,_]=_
 show [_,_,Vamati.slackOf (Vamati.roomOf (Vamatk.pageMeasure st.settings) p.1) _,Vamati.overOf (Vamati.roomOf (Vamatk.pageMeasure st.settings) p.1) _]=_
 rw [e]
 rfl
theorem lq (st:Vamatk.State):0::gZ st=Vamatk.worthAnswer st:=by
 unfold Vamatk.worthAnswer gZ
 have e1:Vamatk.bestPages st=Vamati.bestOf (Bp.eE st) (Vamatk.pageMeasure st.settings):=rfl
 simp only [e1,Bp.xy,Bp.xm,Bp.vJ]
 show [0,_,_,_,_,_]=[0,_,_,_,_,_]
 rw [Bp.lM]
 rfl
theorem tF {st:Vamatk.State}(so:Bp.Sound st)(i j:Int):(cu st (i,j,())).2=Vamatk.placeAnswer st i j:=by
 unfold cu
 by_cases h:Vamatk.isPlace st.blocks.length i=false
 ·unfold Vamatk.placeAnswer
  simp only [if_pos h]
 ·have h':Vamatk.isPlace st.blocks.length i=true:=by simpa using h
  obtain ⟨n,rfl,hn⟩:=bz h'
  simp only [if_neg h]
  rw [Bp.wR so (List.getElem?_eq_getElem hn)]
  rfl
theorem jS (st:Vamatk.State)(i:Int):fm st (i,())=Vamatk.step st (.places i):=by
 show (st,_)=(st,_)
 refine congrArg (Prod.mk st) ?_
 show (if _ then _ else _)=(if _ then _ else _)
 by_cases h:Vamatk.isPlace st.blocks.length i=false
 ·rw [if_pos h,if_pos h]
 ·have h':Vamatk.isPlace st.blocks.length i=true:=by simpa using h
  obtain ⟨n,rfl,hn⟩:=bz h'
  rw [if_neg h,if_neg h,Bp.vO]
  rfl
theorem rY {st:Vamatk.State}(so:Bp.Sound st)(p x y:Int):acz st (p,x,y,())=Vamatk.step st (.at_ p x y):=by
 show (st,_)=(st,_)
 refine congrArg (Prod.mk st) ?_
 show 0::atT st p x y=0::_
 rw [Bp.aco so]
 rfl
theorem aa1 {st:Vamatk.State}(so:Bp.Sound st)(p x y:Int):(atT st p x y).length<=72000:=by
 have h:=bT (fun z:Vamatk.Block×Nat=>Bp.d8 st p x y z.2 z.1) 1200 st.blocks.zipIdx fun z hz=>ku st p x y z.2 z.1 (b8.of so (List.mem_of_getElem? (Bp.fZ hz)))
 rw [List.length_zipIdx] at h
 have:=so.many
 unfold atT
 omega
theorem gU (st:Vamatk.State)(l:List Int)(f:Vamatk.Block->List Vamatk.Block):(Vamatk.withBlock st l f).2.length=1:=by
 unfold Vamatk.withBlock
 split
 ·rfl
 ·split
  ·rfl
  ·split<;>rfl
theorem abp {st:Vamatk.State}(so:Bp.Sound st)(c:Vamatk.Call):(Vamatk.step st c).2.length<=72001:=by
 cases c with
 | settings m i l g p o=>
  unfold Vamatk.step
  simp only
  split<;>simp
 | add l=>
  have:=gU st l fun b=>st.blocks++[b]
  show (Vamatk.withBlock _ _ _).2.length<=_
  omega
 | put i l=>
  unfold Vamatk.step
  simp only
  split
  ·simp
  ·rw [gU]
   omega
 | change i l=>
  unfold Vamatk.step
  simp only
  split
  ·simp
  ·rw [gU]
   omega
 | take i=>
  unfold Vamatk.step
  simp only
  split<;>simp
 | move i j=>
  unfold Vamatk.step
  simp only
  split<;>simp
 | block i=>
  show (j4 st i).length<=_
  unfold j4
  by_cases h:Vamatk.isPlace st.blocks.length i=false
  ·rw [if_pos h]
   simp
  ·have h':Vamatk.isPlace st.blocks.length i=true:=by simpa using h
   obtain ⟨n,rfl,hn⟩:=bz h'
   have gb:st.blocks[n]?=some (st.blocks[n]'hn):=List.getElem?_eq_getElem hn
   have hl:=uV (b8.of so (List.mem_of_getElem? gb))
   rw [if_neg h,List.length_cons,Int.toNat_natCast,gb]
   show (Vamatk.numbersOf _).length+1<=_
   omega
 | lines=>
  show (0::gk st).length<=_
  have h:=bT Vamatk.lineNumbers 6 (Vamatk.allLines st) fun x _=>Nat.le_refl 6
  have h2:=Bp.bx so
  rw [List.length_cons]
  unfold gk
  omega
 | pages=>
  show (Vamatk.pagesAnswer st).length<=_
  rw [<-kC]
  have h:=bT sJ 4 (eP st) fun x _=>Nat.le_refl 4
  have h2:=iu so
  rw [List.length_cons]
  show (eS st).length+1<=_
  unfold eS
  omega
 | worth=>
  show (Vamatk.worthAnswer st).length<=_
  rw [<-lq]
  show 6<=72001
  omega
 | place i k=>
  show (Vamatk.placeAnswer st i k).length<=_
  unfold Vamatk.placeAnswer
  split
  ·simp
  ·split
   ·simp
   ·show 4<=_
    omega
 | places i=>
  rw [<-jS]
  show (if _ then _ else _:List Int).length<=_
  by_cases h:Vamatk.isPlace st.blocks.length i=false
  ·rw [if_pos h]
   simp
  ·have h':Vamatk.isPlace st.blocks.length i=true:=by simpa using h
   obtain ⟨n,rfl,hn⟩:=bz h'
   rw [if_neg h,List.length_cons]
   have h1:=bT Bp.cy 3 (Bp.spB st n) fun x _=>Nat.le_refl 3
   have h2:=uH so hn
   show ((Bp.spB st n).flatMap Bp.cy).length+1<=_
   omega
 | at_ p x y=>
  rw [<-rY so]
  show (0::atT st p x y).length<=_
  have:=aa1 so p x y
  rw [List.length_cons]
  omega
 | count=>
  show 3<=_
  omega
theorem cY {p:Int}{n k:Nat}{r:List Int}{c:List (List Int)}{t:List Int}(hs:PyVamatk.shape p=some (n,k))(h:Bp.Head (p::r) c t):(k=0->∃ xs,xs.length=n/\c=[p::xs]/\r=xs++t)/\(k=1->∃ xs row,xs.length=n/\c=[p::xs,row]/\r=xs++(row.length:Int)::(row++t)):=by
 cases h with
 | nums p xs t h=>
  rw [hs] at h
  have z:=Option.some.inj h
  have z1:n=xs.length:=congrArg Prod.fst z
  have z2:k=0:=congrArg Prod.snd z
  exact ⟨fun _=>⟨xs,z1.symm,rfl,rfl⟩,fun e=>absurd (z2.symm.trans e) (by decide)⟩
 | row p xs row t h=>
  rw [hs] at h
  have z:=Option.some.inj h
  have z1:n=xs.length:=congrArg Prod.fst z
  have z2:k=1:=congrArg Prod.snd z
  exact ⟨fun e=>absurd (z2.symm.trans e) (by decide),fun _=>⟨xs,row,z1.symm,rfl,rfl⟩⟩
theorem bv {l:List Int}{p:Nat}{x:Int}{r:List Int}(h:l.drop p=x::r):l[p]?=some x/\l.drop (p+1)=r/\p+1<=l.length:=by
 have hp:p < l.length:=Nat.lt_of_not_le fun z=>by
  rw [List.drop_eq_nil_of_le z] at h
  cases h
 rw [List.drop_eq_getElem_cons hp] at h
 injection h with h1 h2
 exact ⟨by rw [List.getElem?_eq_getElem hp,h1],h2,hp⟩
theorem kR {l:List Int}{p:Nat}{xs r:List Int}(hp:p<=l.length)(h:l.drop p=xs++r):(l.take (p+xs.length)).drop p=xs/\l.drop (p+xs.length)=r/\p+xs.length<=l.length:=by
 have e1:(l.take (p+xs.length)).drop p=xs:=by
  rw [List.drop_take,h,Nat.add_sub_cancel_left,List.take_left]
 have e2:l.drop (p+xs.length)=r:=by
  rw [<-List.drop_drop,h,List.drop_left]
 have e3:l.length - p=xs.length+r.length:=by
  rw [<-List.length_drop,h,List.length_append]
 exact ⟨e1,e2,by omega⟩
def Fr2 (p q:Addr)(H H':Hp):Prop:=∀ b o,H b=some o->b≠p->b≠q->H' b=some o
theorem Fr2.left {p q:Addr}{H H':Hp}(h:Fr p H H'):Fr2 p q H H':=fun b o e n _=>h b o e n
theorem Fr2.right {p q:Addr}{H H':Hp}(h:Fr q H H'):Fr2 p q H H':=fun b o e _ n=>h b o e n
theorem Fr2.trans {p q:Addr}{H H1 H2:Hp}(a:Fr2 p q H H1)(b:Fr2 p q H1 H2):Fr2 p q H H2:=fun c o e n m=>b c o (a c o e n m) n m
abbrev spA (K:PySem.W.Frag)(kk:Kl)(CD CE:Addr)(p:Int):Sp:=fun vs H Q _=>∃ pd dx pr dr a l pos st c t,vs=[.ref pd,.ref pr]/\aX kk CD K pd dx st H/\Bp.Sound st/\cz CE K pr dr a l pos H/\pos<=l.length/\Bp.Head (p::l.drop pos) c t/\VamatkNeutral.asked1 c=true/\
 ∀ v H' q,cM cI K (VamatkNeutral.step st c).2 v H'->aX kk CD K pd dx (VamatkNeutral.step st c).1 H'->cz CE K pr dr a l q H'->q<=l.length->l.drop q=t->Fr2 pd pr H H'->Q v H'
section
variable {X:Cx}{σ:L2.St}{H:Hp}{e:Expr}{es:List Expr}{pos sp apos cpos:Pos}{D:Ends}{rest:List Stmt}{K:PySem.W.Frag}{kk:Kl}{CD CE:Addr}{pd dx pr dr a:Addr}{l:List Int}{p q:Nat}{st:Vamatk.State}{k:Nat}{γ:Type}{A:Ra γ}{pre:Vamatk.State->γ->Prop}{stp:Vamatk.State->γ->Vamatk.State×List Int}{d:γ}{m:Str}
theorem fe {t:TA}{pl:Sem Bool}(M:az X.prog X.w X.K X.mg X.base CD m k (spD K kk CD A pre stp))(c:Cls X.K CD)(hne:CD≠CE)(hr:Room k X.A)(hd:aX kk CD K pd dx st H)(so:Bp.Sound st)(hm:m ∉ dcN)(h1:PA X (e::es) t)(hp:pre st d)
  (h2:∀ H1 Q1,Same H H1->(∀ us H2,A K d us H2->aX kk CD K pd dx st H2->cz CE K pr dr a l q H2->Fr pr H1 H2->Q1 us H2)->t σ H1 Q1)
  (h:∀ v H',cM cI K (stp st d).2 v H'->aX kk CD K pd dx (stp st d).1 H'->cz CE K pr dr a l q H'->Fr2 pd pr H H'->D.rt v H')(hx:σ[0]?=some (some (.ref pd)):=by rfl)(hN:X.N[0]?=some ("document":Str):=by rfl)(hv':Vis X.env.scope "document":=by first | exact Or.inl rfl | exact Or.inr (Or.inl rfl) | exact Or.inr (Or.inr rfl))
  (hst:starEach (e::es) X.env=(false,eval e X.env)::starEach es X.env:=by rfl)(hpl:(backTo cpos (starEach es X.env)).any (·.1)=false:=by rfl)
  (ht:eval (.Call (.Attribute (.Name "document" sp) m apos) (e::es) [] cpos) X.env=(do
   let ov <-eval (.Name "document" sp) X.env
   standAt apos.atName
   let (f,first) <-holding [ov] (getMethod ov m pl)
   callWith cpos f first (backTo cpos (starEach (e::es) X.env)) (backToKw cpos (keywordEach [] X.env))):=by rfl):
  SX X D (.Return (some (.Call (.Attribute (.Name "document" sp) m apos) (e::es) [] cpos)) pos::rest) σ H:=by
 obtain ⟨f,fd,ps,hM,hb',F⟩:=M.ex
 obtain ⟨vs,vb,vl,hpd,dv⟩:=id hd
 have ho:PX X σ H (.Name "document" sp) (cV K (.ref pd)):=ab (R:=cV) 0 hx rfl hN hv'
 refine bh (lS (fL (pl:=pl) (E:=E0) (dvs:=[]) ah c hM F hr hb' .nil pass0 h1 hst hpl ht)) (ho.now fun v H1 s1 e1=>?_)
 have e1:v=.ref pd:=e1
 refine ⟨pd,dx,_,e1,s1 _ _ hpd,lkn (ns:=dcN) rfl hm,h2 H1 _ s1 fun us H2 q2 hd2 rd2 fr2=>?_⟩
 rw [e1,List.append_nil]
 refine ⟨pd,dx,st,d,us,rfl,hd2,so,q2,hp,fun v H' a1 a2 a3=>?_⟩
 obtain ⟨vs',vb',vl',hpd2,_⟩:=id hd2
 exact h v H' a1 a2 (cz.fr hne rd2 hpd2 a3) ((Fr2.left (Fr.of s1)).trans ((Fr2.right fr2).trans (Fr2.left a3)))
theorem kU {pl:Sem Bool}{stq:Vamatk.State->Unit->Vamatk.State×List Int}(M:az X.prog X.w X.K X.mg X.base CD m k (spD K kk CD aN (fun _ _=>True) stq))(c:Cls X.K CD)(hne:CD≠CE)(hr:Room k X.A)(hd:aX kk CD K pd dx st H)(so:Bp.Sound st)(hm:m ∉ dcN)(rd:cz CE K pr dr a l q H)
  (h:∀ v H',cM cI K (stq st ()).2 v H'->aX kk CD K pd dx (stq st ()).1 H'->cz CE K pr dr a l q H'->Fr2 pd pr H H'->D.rt v H')(hx:σ[0]?=some (some (.ref pd)):=by rfl)(hN:X.N[0]?=some ("document":Str):=by rfl)(hv':Vis X.env.scope "document":=by first | exact Or.inl rfl | exact Or.inr (Or.inl rfl) | exact Or.inr (Or.inr rfl))
  (ht:eval (.Call (.Attribute (.Name "document" sp) m apos) [] [] cpos) X.env=(do
   let ov <-eval (.Name "document" sp) X.env
   standAt apos.atName
   let (f,first) <-holding [ov] (getMethod ov m pl)
   callWith cpos f first (backTo cpos (starEach [] X.env)) (backToKw cpos (keywordEach [] X.env))):=by rfl):
  SX X D (.Return (some (.Call (.Attribute (.Name "document" sp) m apos) [] [] cpos)) pos::rest) σ H:=by
 obtain ⟨f,fd,ps,hM,hb',F⟩:=M.ex
 obtain ⟨vs,vb,vl,hpd,dv⟩:=id hd
 have ho:PX X σ H (.Name "document" sp) (cV K (.ref pd)):=ab (R:=cV) 0 hx rfl hN hv'
 refine bh (lS (hZ (pl:=pl) (E:=E0) (dvs:=[]) ah c hM F hr hb' .nil pass0 ht)) (ho.now fun v H1 s1 e1=>?_)
 have e1:v=.ref pd:=e1
 refine ⟨pd,dx,_,e1,s1 _ _ hpd,lkn (ns:=dcN) rfl hm,?_⟩
 rw [e1]
 exact ⟨pd,dx,st,(),[],rfl,hd.mono s1,so,rfl,trivial,fun v H' a1 a2 a3=>h v H' a1 a2 (cz.fr hne (rd.mono s1) (s1 _ _ hpd) a3) ((Fr2.left (Fr.of s1)).trans (Fr2.left a3))⟩
theorem mT {i:Nat}{x:Str}{pos':Pos}{z:Int}{pl:Sem Bool}(M:az X.prog X.w X.K X.mg X.base CE "number" 1 (uY K CE))(c:Cls X.K CE)(hr:Room 1 X.A)(hN':X.N.Nodup)(hi:X.N[i]?=some x)(hx:Loc X.env.scope x)(rd:cz CE K pr dr a l p H)(hz:l[p]?=some z)
  (k:∀ H',cz CE K pr dr a l (p+1) H'->Fr pr H H'->SX X D rest (σ.set i (some (.int z))) H')(hv:σ[1]?=some (some (.ref pr)):=by rfl)(hN:X.N[1]?=some ("reader":Str):=by rfl)(hv':Vis X.env.scope "reader":=by first | exact Or.inl rfl | exact Or.inr (Or.inl rfl) | exact Or.inr (Or.inr rfl))
  (hs:swapsWith (.Call (.Attribute (.Name "reader" sp) "number" apos) [] [] cpos) (some (.Name x pos')) pos.line X.env=pure false:=by rfl)(hf:X.fn x=true\/X.env.scope.names.lookup x=some .local:=by first | exact .inl rfl | exact .inr rfl)
  (ht:eval (.Call (.Attribute (.Name "reader" sp) "number" apos) [] [] cpos) X.env=(do
   let ov <-eval (.Name "reader" sp) X.env
   standAt apos.atName
   let (f,first) <-holding [ov] (getMethod ov "number" pl)
   callWith cpos f first (backTo cpos (starEach [] X.env)) (backToKw cpos (keywordEach [] X.env))):=by rfl):
  SX X D (.Assign [.Name x pos'] (.Call (.Attribute (.Name "reader" sp) "number" apos) [] [] cpos) pos::rest) σ H:=
 bh (pF hN' hi hx ah hs hf) (iA (i:=1) M c hr rd hz k hv hN hv' (by decide) (by decide) ht)
end
section
variable {P:Program}{w:World}{K:PySem.W.Frag}{mg:Str->Option Value}{base:Heap}{kk:Kl}{CD CE:Addr}
structure Rds (P:Program)(w:World)(K:PySem.W.Frag)(mg:Str->Option Value)(base:Heap)(kk:Kl)(CD CE:Addr):Prop where
 cd:gS K CD
 ce:CRd K CE
 ne:CD≠CE
 ap:ApD kk CE
 num:az P w K mg base CE "number" 1 (uY K CE)
 nums:az P w K mg base CE "numbers" 1 (uf K CE)
 row:az P w K mg base CE "row" 2 (abF K CE)
theorem cX {p:Int}:∀ vs H Q E,spA K kk CD CE p vs H Q E->vs.length=2:=by
 rintro vs H Q E ⟨pd,dx,pr,dr,a,l,pos,st,c,t,rfl,_⟩
 rfl
def yR (st:Vamatk.State)(d:Int×Unit):Vamatk.State×List Int:=(st,j4 st d.1)
def xX (st:Vamatk.State)(_:Unit):Vamatk.State×List Int:=(st,[0,(st.blocks.length:Int),(Vamatk.itemsIn st.blocks:Int)])
theorem lO {c:List (List Int)}{r:List Int}(h:VamatkNeutral.asked1 c=true)(e:c[1]?=some r):r.length<=12000:=by
 unfold VamatkNeutral.asked1 at h
 split at h
 all_goals first
  | (cases h;done)
  | (cases e;done)
  | (have e:=Option.some.inj e;subst e;simp only [Bool.and_eq_true,decide_eq_true_eq] at h;omega)
theorem aa0 {P:Program}{w:World}{mg:Str->Option Value}{base:Heap}{m:Str}{k:Nat}{γ:Type}{A:Ra γ}{g:Vamatk.State×γ->List Int}(M:az P w K mg base CD m k (spF K (aC (cDc kk CD) A) (fun d=>Bp.Sound d.1) (cM cI) g)):az P w K mg base CD m k (spD K kk CD A (fun _ _=>True) (fun st d=>(st,g (st,d)))):=by
 obtain ⟨f,fd,ps,hM,hb,F⟩:=M.ex
 refine ⟨f,fd,ps,hM,hb,F.imp fun vs H Q E h=>?_⟩
 obtain ⟨pd,dx,st,d,ws,rfl,hd,so,ha,_,k⟩:=h
 exact ⟨(st,d),⟨_,ws,rfl,⟨pd,dx,rfl,hd⟩,ha⟩,so,fun v H' s' r=>k v H' r (hd.mono s') (Fr.of s')⟩
theorem qr (R:Rds P w K mg base kk CD CE)(F:aW K mg "answer_take" fc ["document","reader"])(g:az P w K mg base CD "take" 2 (spD K kk CD (aC cI aN) (fun _ _=>True) ki)):Cal P w K mg base "answer_take" 13 (spA K kk CD CE 4):=by
 refine F.cal rq cX (fun f cdv A outer s H vs Q E hr h=>?_)
 obtain ⟨pd,dx,pr,dr,a,l,pos,st,c,t,rfl,hd,so,rd,hle,hh,hk,k⟩:=h
 obtain ⟨xs,hl,rfl,hdr⟩:=(cY (n:=1) (k:=0) rfl hh).1 rfl
 match xs,hl with
 | [x],_=>
  obtain ⟨h1,h2,h3⟩:=bv hdr
  have es:ki st (x,())=Vamatk.step st (.take x):=rfl
  refine fe (CE:=CE) (l:=l) (q:=pos+1) (d:=(x,())) g R.cd.cl R.ne (hr.mono (by decide)) hd so (by decide +kernel) (aq ah be) trivial (fun H1 Q1 s1 k1=>?_) (fun v H' a1 a2 a3 a4=>k v H' (pos+1) (by rw [es] at a1;exact a1) (by rw [es] at a2;exact a2) a3 h3 h2 a4)
  exact iA (i:=1) R.num R.ce.cl (hr.mono (by decide)) (rd.mono s1) h1 fun H2 rd2 fr2=>k1 _ _ ⟨_,_,rfl,rfl,rfl⟩ (aX.fr R.ap R.ne (hd.mono s1) (rd.mono s1).obj rd2.obj fr2) rd2 fr2
theorem ow (R:Rds P w K mg base kk CD CE)(F:aW K mg "answer_block" ey ["document","reader"])(g:az P w K mg base CD "block" 2 (spD K kk CD (aC cI aN) (fun _ _=>True) yR)):Cal P w K mg base "answer_block" 13 (spA K kk CD CE 6):=by
 refine F.cal pq cX (fun f cdv A outer s H vs Q E hr h=>?_)
 obtain ⟨pd,dx,pr,dr,a,l,pos,st,c,t,rfl,hd,so,rd,hle,hh,hk,k⟩:=h
 obtain ⟨xs,hl,rfl,hdr⟩:=(cY (n:=1) (k:=0) rfl hh).1 rfl
 match xs,hl with
 | [x],_=>
  obtain ⟨h1,h2,h3⟩:=bv hdr
  have es:yR st (x,())=Vamatk.step st (.block x):=rfl
  refine fe (CE:=CE) (l:=l) (q:=pos+1) (d:=(x,())) g R.cd.cl R.ne (hr.mono (by decide)) hd so (by decide +kernel) (aq ah be) trivial (fun H1 Q1 s1 k1=>?_) (fun v H' a1 a2 a3 a4=>k v H' (pos+1) (by rw [es] at a1;exact a1) (by rw [es] at a2;exact a2) a3 h3 h2 a4)
  exact iA (i:=1) R.num R.ce.cl (hr.mono (by decide)) (rd.mono s1) h1 fun H2 rd2 fr2=>k1 _ _ ⟨_,_,rfl,rfl,rfl⟩ (aX.fr R.ap R.ne (hd.mono s1) (rd.mono s1).obj rd2.obj fr2) rd2 fr2
theorem lY (R:Rds P w K mg base kk CD CE)(F:aW K mg "answer_places" dP ["document","reader"])(g:az P w K mg base CD "places" 12 (spD K kk CD (aC cI aN) (fun _ _=>True) fm)):Cal P w K mg base "answer_places" 13 (spA K kk CD CE 11):=by
 refine F.cal nN cX (fun f cdv A outer s H vs Q E hr h=>?_)
 obtain ⟨pd,dx,pr,dr,a,l,pos,st,c,t,rfl,hd,so,rd,hle,hh,hk,k⟩:=h
 obtain ⟨xs,hl,rfl,hdr⟩:=(cY (n:=1) (k:=0) rfl hh).1 rfl
 match xs,hl with
 | [x],_=>
  obtain ⟨h1,h2,h3⟩:=bv hdr
  have es:fm st (x,())=Vamatk.step st (.places x):=jS st x
  refine fe (CE:=CE) (l:=l) (q:=pos+1) (d:=(x,())) g R.cd.cl R.ne (hr.mono (by decide)) hd so (by decide +kernel) (aq ah be) trivial (fun H1 Q1 s1 k1=>?_) (fun v H' a1 a2 a3 a4=>k v H' (pos+1) (by rw [es] at a1;exact a1) (by rw [es] at a2;exact a2) a3 h3 h2 a4)
  exact iA (i:=1) R.num R.ce.cl (hr.mono (by decide)) (rd.mono s1) h1 fun H2 rd2 fr2=>k1 _ _ ⟨_,_,rfl,rfl,rfl⟩ (aX.fr R.ap R.ne (hd.mono s1) (rd.mono s1).obj rd2.obj fr2) rd2 fr2
theorem qN (R:Rds P w K mg base kk CD CE)(F:aW K mg "answer_move" fb ["document","reader"])(g:az P w K mg base CD "move" 2 (spD K kk CD (aC cI (aC cI aN)) (fun _ _=>True) j7)):Cal P w K mg base "answer_move" 13 (spA K kk CD CE 5):=by
 refine F.cal rW cX (fun f cdv A outer s H vs Q E hr h=>?_)
 obtain ⟨pd,dx,pr,dr,a,l,pos,st,c,t,rfl,hd,so,rd,hle,hh,hk,k⟩:=h
 obtain ⟨xs,hl,rfl,hdr⟩:=(cY (n:=2) (k:=0) rfl hh).1 rfl
 have nd:(["document","reader","i"]:List Str).Nodup:=by decide +kernel
 match xs,hl with
 | [x,y],_=>
  obtain ⟨h1,h2,h3⟩:=bv hdr
  obtain ⟨h4,h5,h6⟩:=bv h2
  have es:j7 st (x,y,())=Vamatk.step st (.move x y):=rfl
  refine mT (i:=2) R.num R.ce.cl (hr.mono (by decide)) nd rfl (Or.inl rfl) rd h1 fun H0 rd0 fr0=>?_
  have hd0:=aX.fr R.ap R.ne hd rd.obj rd0.obj fr0
  refine fe (CE:=CE) (l:=l) (q:=pos+1+1) (d:=(x,y,())) g R.cd.cl R.ne (hr.mono (by decide)) hd0 so (by decide +kernel) (aq ah (aq ah be)) trivial (fun H1 Q1 s1 k1=>?_) (fun v H' a1 a2 a3 a4=>k v H' (pos+1+1) (by rw [es] at a1;exact a1) (by rw [es] at a2;exact a2) a3 h6 h5 ((Fr2.right fr0).trans a4))
  refine (ab (K:=K) (R:=cI) (d:=x) 2 rfl rfl).now fun v H2 s2 e2=>?_
  have e2:v=.int x:=e2
  subst e2
  exact iA (i:=1) R.num R.ce.cl (hr.mono (by decide)) (rd0.mono (s1.trans s2)) h4 fun H3 rd3 fr3=>k1 _ _ ⟨_,_,rfl,rfl,_,_,rfl,rfl,rfl⟩ (aX.fr R.ap R.ne (hd0.mono (s1.trans s2)) (rd0.mono (s1.trans s2)).obj rd3.obj fr3) rd3 ((Fr.of s2).trans fr3)
theorem oj (R:Rds P w K mg base kk CD CE)(F:aW K mg "answer_place" d5 ["document","reader"])(g:az P w K mg base CD "place" 12 (spD K kk CD (aC cI (aC cI aN)) (fun _ _=>True) cu)):Cal P w K mg base "answer_place" 13 (spA K kk CD CE 10):=by
 refine F.cal pc cX (fun f cdv A outer s H vs Q E hr h=>?_)
 obtain ⟨pd,dx,pr,dr,a,l,pos,st,c,t,rfl,hd,so,rd,hle,hh,hk,k⟩:=h
 obtain ⟨xs,hl,rfl,hdr⟩:=(cY (n:=2) (k:=0) rfl hh).1 rfl
 have nd:(["document","reader","i"]:List Str).Nodup:=by decide +kernel
 match xs,hl with
 | [x,y],_=>
  obtain ⟨h1,h2,h3⟩:=bv hdr
  obtain ⟨h4,h5,h6⟩:=bv h2
  have es:cu st (x,y,())=Vamatk.step st (.place x y):=Prod.ext rfl (tF so x y)
  refine mT (i:=2) R.num R.ce.cl (hr.mono (by decide)) nd rfl (Or.inl rfl) rd h1 fun H0 rd0 fr0=>?_
  have hd0:=aX.fr R.ap R.ne hd rd.obj rd0.obj fr0
  refine fe (CE:=CE) (l:=l) (q:=pos+1+1) (d:=(x,y,())) g R.cd.cl R.ne (hr.mono (by decide)) hd0 so (by decide +kernel) (aq ah (aq ah be)) trivial (fun H1 Q1 s1 k1=>?_) (fun v H' a1 a2 a3 a4=>k v H' (pos+1+1) (by rw [es] at a1;exact a1) (by rw [es] at a2;exact a2) a3 h6 h5 ((Fr2.right fr0).trans a4))
  refine (ab (K:=K) (R:=cI) (d:=x) 2 rfl rfl).now fun v H2 s2 e2=>?_
  have e2:v=.int x:=e2
  subst e2
  exact iA (i:=1) R.num R.ce.cl (hr.mono (by decide)) (rd0.mono (s1.trans s2)) h4 fun H3 rd3 fr3=>k1 _ _ ⟨_,_,rfl,rfl,_,_,rfl,rfl,rfl⟩ (aX.fr R.ap R.ne (hd0.mono (s1.trans s2)) (rd0.mono (s1.trans s2)).obj rd3.obj fr3) rd3 ((Fr.of s2).trans fr3)
theorem rc (R:Rds P w K mg base kk CD CE)(F:aW K mg "answer_put" fR ["document","reader"])(g:az P w K mg base CD "put" 8 (spD K kk CD (aC cI (aC (cL cI) aN)) (fun _ d=>d.2.1.length<=12000) qU)):Cal P w K mg base "answer_put" 13 (spA K kk CD CE 2):=by
 refine F.cal uB cX (fun f cdv A outer s H vs Q E hr h=>?_)
 obtain ⟨pd,dx,pr,dr,a,l,pos,st,c,t,rfl,hd,so,rd,hle,hh,hk,k⟩:=h
 obtain ⟨xs,row,hl,rfl,hdr⟩:=(cY (n:=1) (k:=1) rfl hh).2 rfl
 have nd:(["document","reader","i"]:List Str).Nodup:=by decide +kernel
 match xs,hl with
 | [x],_=>
  obtain ⟨h1,h2,h3⟩:=bv hdr
  obtain ⟨h4,h5,h6⟩:=bv h2
  obtain ⟨h7,h8,h9⟩:=kR h6 h5
  have es:qU st (x,row,())=Vamatk.step st (.put x row):=rfl
  have hlen:row.length<=12000:=lO hk rfl
  refine mT (i:=2) R.num R.ce.cl (hr.mono (by decide)) nd rfl (Or.inl rfl) rd h1 fun H0 rd0 fr0=>?_
  have hd0:=aX.fr R.ap R.ne hd rd.obj rd0.obj fr0
  refine fe (CE:=CE) (l:=l) (q:=pos+1+1+row.length) (d:=(x,row,())) g R.cd.cl R.ne (hr.mono (by decide)) hd0 so (by decide +kernel) (aq ah (aq ah be)) hlen (fun H1 Q1 s1 k1=>?_) (fun v H' a1 a2 a3 a4=>k v H' (pos+1+1+row.length) (by rw [es] at a1;exact a1) (by rw [es] at a2;exact a2) a3 h9 h8 ((Fr2.right fr0).trans a4))
  refine (ab (K:=K) (R:=cI) (d:=x) 2 rfl rfl).now fun v H2 s2 e2=>?_
  have e2:v=.int x:=e2
  subst e2
  refine wU (i:=1) (n:=row.length) R.row R.ce.cl (hr.mono (by decide)) (rd0.mono (s1.trans s2)) h4 h9 fun v3 H3 r3 rd3 fr3=>k1 _ _ ⟨_,_,rfl,rfl,v3,_,rfl,?_,rfl⟩ (aX.fr R.ap R.ne (hd0.mono (s1.trans s2)) (rd0.mono (s1.trans s2)).obj rd3.obj fr3) rd3 ((Fr.of s2).trans fr3)
  rw [h7] at r3
  exact r3.toL
theorem lV (R:Rds P w K mg base kk CD CE)(F:aW K mg "answer_change" dR ["document","reader"])(g:az P w K mg base CD "change" 8 (spD K kk CD (aC cI (aC (cL cI) aN)) (fun _ d=>d.2.1.length<=12000) gu)):Cal P w K mg base "answer_change" 13 (spA K kk CD CE 3):=by
 refine F.cal nz cX (fun f cdv A outer s H vs Q E hr h=>?_)
 obtain ⟨pd,dx,pr,dr,a,l,pos,st,c,t,rfl,hd,so,rd,hle,hh,hk,k⟩:=h
 obtain ⟨xs,row,hl,rfl,hdr⟩:=(cY (n:=1) (k:=1) rfl hh).2 rfl
 have nd:(["document","reader","i"]:List Str).Nodup:=by decide +kernel
 match xs,hl with
 | [x],_=>
  obtain ⟨h1,h2,h3⟩:=bv hdr
  obtain ⟨h4,h5,h6⟩:=bv h2
  obtain ⟨h7,h8,h9⟩:=kR h6 h5
  have es:gu st (x,row,())=Vamatk.step st (.change x row):=rfl
  have hlen:row.length<=12000:=lO hk rfl
  refine mT (i:=2) R.num R.ce.cl (hr.mono (by decide)) nd rfl (Or.inl rfl) rd h1 fun H0 rd0 fr0=>?_
  have hd0:=aX.fr R.ap R.ne hd rd.obj rd0.obj fr0
  refine fe (CE:=CE) (l:=l) (q:=pos+1+1+row.length) (d:=(x,row,())) g R.cd.cl R.ne (hr.mono (by decide)) hd0 so (by decide +kernel) (aq ah (aq ah be)) hlen (fun H1 Q1 s1 k1=>?_) (fun v H' a1 a2 a3 a4=>k v H' (pos+1+1+row.length) (by rw [es] at a1;exact a1) (by rw [es] at a2;exact a2) a3 h9 h8 ((Fr2.right fr0).trans a4))
  refine (ab (K:=K) (R:=cI) (d:=x) 2 rfl rfl).now fun v H2 s2 e2=>?_
  have e2:v=.int x:=e2
  subst e2
  refine wU (i:=1) (n:=row.length) R.row R.ce.cl (hr.mono (by decide)) (rd0.mono (s1.trans s2)) h4 h9 fun v3 H3 r3 rd3 fr3=>k1 _ _ ⟨_,_,rfl,rfl,v3,_,rfl,?_,rfl⟩ (aX.fr R.ap R.ne (hd0.mono (s1.trans s2)) (rd0.mono (s1.trans s2)).obj rd3.obj fr3) rd3 ((Fr.of s2).trans fr3)
  rw [h7] at r3
  exact r3.toL
theorem og (R:Rds P w K mg base kk CD CE)(F:aW K mg "answer_lines" d9 ["document","reader"])(g:az P w K mg base CD "lines" 12 (spD K kk CD aN (fun _ _=>True) (iD fun st=>0::gk st))):Cal P w K mg base "answer_lines" 13 (spA K kk CD CE 7):=by
 refine F.cal qB cX (fun f cdv A outer s H vs Q E hr h=>?_)
 obtain ⟨pd,dx,pr,dr,a,l,pos,st,c,t,rfl,hd,so,rd,hle,hh,hk,k⟩:=h
 obtain ⟨xs,hl,rfl,hdr⟩:=(cY (n:=0) (k:=0) rfl hh).1 rfl
 match xs,hl with
 | [],_=>
  have es:(iD fun st=>0::gk st) st ()=Vamatk.step st .lines:=rfl
  exact kU (CE:=CE) (l:=l) (q:=pos) g R.cd.cl R.ne (hr.mono (by decide)) hd so (by decide +kernel) rd (fun v H' a1 a2 a3 a4=>k v H' (pos) (by rw [es] at a1;exact a1) (by rw [es] at a2;exact a2) a3 hle hdr a4)
theorem om (R:Rds P w K mg base kk CD CE)(F:aW K mg "answer_pages" eu ["document","reader"])(g:az P w K mg base CD "pages" 12 (spD K kk CD aN (fun _ _=>True) (iD fun st=>0::eS st))):Cal P w K mg base "answer_pages" 13 (spA K kk CD CE 8):=by
 refine F.cal pU cX (fun f cdv A outer s H vs Q E hr h=>?_)
 obtain ⟨pd,dx,pr,dr,a,l,pos,st,c,t,rfl,hd,so,rd,hle,hh,hk,k⟩:=h
 obtain ⟨xs,hl,rfl,hdr⟩:=(cY (n:=0) (k:=0) rfl hh).1 rfl
 match xs,hl with
 | [],_=>
  have es:(iD fun st=>0::eS st) st ()=Vamatk.step st .pages:=Prod.ext rfl (kC st)
  exact kU (CE:=CE) (l:=l) (q:=pos) g R.cd.cl R.ne (hr.mono (by decide)) hd so (by decide +kernel) rd (fun v H' a1 a2 a3 a4=>k v H' (pos) (by rw [es] at a1;exact a1) (by rw [es] at a2;exact a2) a3 hle hdr a4)
theorem nX (R:Rds P w K mg base kk CD CE)(F:aW K mg "answer_worth" el ["document","reader"])(g:az P w K mg base CD "worth" 12 (spD K kk CD aN (fun _ _=>True) (iD fun st=>0::gZ st))):Cal P w K mg base "answer_worth" 13 (spA K kk CD CE 9):=by
 refine F.cal p7 cX (fun f cdv A outer s H vs Q E hr h=>?_)
 obtain ⟨pd,dx,pr,dr,a,l,pos,st,c,t,rfl,hd,so,rd,hle,hh,hk,k⟩:=h
 obtain ⟨xs,hl,rfl,hdr⟩:=(cY (n:=0) (k:=0) rfl hh).1 rfl
 match xs,hl with
 | [],_=>
  have es:(iD fun st=>0::gZ st) st ()=Vamatk.step st .worth:=Prod.ext rfl (lq st)
  exact kU (CE:=CE) (l:=l) (q:=pos) g R.cd.cl R.ne (hr.mono (by decide)) hd so (by decide +kernel) rd (fun v H' a1 a2 a3 a4=>k v H' (pos) (by rw [es] at a1;exact a1) (by rw [es] at a2;exact a2) a3 hle hdr a4)
theorem oh (R:Rds P w K mg base kk CD CE)(F:aW K mg "answer_count" d7 ["document","reader"])(g:az P w K mg base CD "count" 4 (spD K kk CD aN (fun _ _=>True) xX)):Cal P w K mg base "answer_count" 13 (spA K kk CD CE 13):=by
 refine F.cal qS cX (fun f cdv A outer s H vs Q E hr h=>?_)
 obtain ⟨pd,dx,pr,dr,a,l,pos,st,c,t,rfl,hd,so,rd,hle,hh,hk,k⟩:=h
 obtain ⟨xs,hl,rfl,hdr⟩:=(cY (n:=0) (k:=0) rfl hh).1 rfl
 match xs,hl with
 | [],_=>
  have es:xX st ()=Vamatk.step st .count:=rfl
  exact kU (CE:=CE) (l:=l) (q:=pos) g R.cd.cl R.ne (hr.mono (by decide)) hd so (by decide +kernel) rd (fun v H' a1 a2 a3 a4=>k v H' (pos) (by rw [es] at a1;exact a1) (by rw [es] at a2;exact a2) a3 hle hdr a4)
theorem rJ (R:Rds P w K mg base kk CD CE)(F:aW K mg "answer_add" fI ["document","reader"])(g:az P w K mg base CD "add" 8 (spD K kk CD (aC (cL cI) aN) (fun _ d=>d.1.length<=12000) yO)):Cal P w K mg base "answer_add" 13 (spA K kk CD CE 1):=by
 refine F.cal uA cX (fun f cdv A outer s H vs Q E hr h=>?_)
 obtain ⟨pd,dx,pr,dr,a,l,pos,st,c,t,rfl,hd,so,rd,hle,hh,hk,k⟩:=h
 obtain ⟨xs,row,hl,rfl,hdr⟩:=(cY (n:=0) (k:=1) rfl hh).2 rfl
 match xs,hl with
 | [],_=>
  obtain ⟨h4,h5,h6⟩:=bv hdr
  obtain ⟨h7,h8,h9⟩:=kR h6 h5
  have hlen:row.length<=12000:=lO hk rfl
  refine fe (CE:=CE) (l:=l) (q:=pos+1+row.length) (d:=(row,())) g R.cd.cl R.ne (hr.mono (by decide)) hd so (by decide +kernel) (aq ah be) hlen (fun H1 Q1 s1 k1=>?_) (fun v H' a1 a2 a3 a4=>k v H' (pos+1+row.length) a1 a2 a3 h9 h8 a4)
  refine wU (i:=1) (n:=row.length) R.row R.ce.cl (hr.mono (by decide)) (rd.mono s1) h4 h9 fun v3 H3 r3 rd3 fr3=>k1 _ _ ⟨v3,_,rfl,?_,rfl⟩ (aX.fr R.ap R.ne (hd.mono s1) (rd.mono s1).obj rd3.obj fr3) rd3 fr3
  rw [h7] at r3
  exact r3.toL
theorem j9 (R:Rds P w K mg base kk CD CE)(F:aW K mg "answer_settings" c8 ["document","reader"])(g:az P w K mg base CD "settle" 2 (spD K kk CD (aC cSl aN) (fun _ _=>True) ij))(N:Nums mg):Cal P w K mg base "answer_settings" 13 (spA K kk CD CE 0):=by
 refine F.cal kJ cX (fun f cdv A outer s H vs Q E hr h=>?_)
 obtain ⟨pd,dx,pr,dr,a,l,pos,st,c,t,rfl,hd,so,rd,hle,hh,hk,k⟩:=h
 obtain ⟨xs,hl,rfl,hdr⟩:=(cY (n:=6) (k:=0) rfl hh).1 rfl
 match xs,hl with
 | [x0,x1,x2,x3,x4,x5],_=>
  obtain ⟨h7,h8,h9⟩:=kR hle hdr
  refine fe (CE:=CE) (l:=l) (q:=pos+6) (d:=(({measure:=x0,indent:=x1,lead:=x2,gap:=x3,page:=x4,orphan:=x5}:Vamatk.Settings),())) g R.cd.cl R.ne (hr.mono (by decide)) hd so (by decide +kernel) (aq ah be) trivial (fun H1 Q1 s1 k1=>?_) (fun v H' a1 a2 a3 a4=>k v H' (pos+6) a1 a2 a3 h9 h8 a4)
  refine acN (i:=1) (n:=6) R.nums R.ce.cl (hr.mono (by decide)) (rd.mono s1) (fun H2 Q2 s2 k2=>(aD (K:=K) N.settingCount).now fun v H3 s3 e3=>?_) h9 fun v3 H3 r3 rd3 fr3=>k1 _ _ ⟨v3,_,rfl,?_,rfl⟩ (aX.fr R.ap R.ne (hd.mono s1) (rd.mono s1).obj rd3.obj fr3) rd3 fr3
  ·have e3:v=.int 6:=e3
   subst e3
   exact k2 H3 pos rfl (rd.mono (s1.trans (s2.trans s3))) (Fr.of s3)
  ·have h7:(l.take (pos+6)).drop pos=[x0,x1,x2,x3,x4,x5]:=h7
   rw [h7] at r3
   exact r3.toL
theorem ug (R:Rds P w K mg base kk CD CE)(F:aW K mg "answer_at" gC ["document","reader"])(g:az P w K mg base CD "at" 12 (spD K kk CD (aC cI (aC cI (aC cI aN))) (fun _ _=>True) acz)):Cal P w K mg base "answer_at" 13 (spA K kk CD CE 12):=by
 refine F.cal uT cX (fun f cdv A outer s H vs Q E hr h=>?_)
 obtain ⟨pd,dx,pr,dr,a,l,pos,st,c,t,rfl,hd,so,rd,hle,hh,hk,k⟩:=h
 obtain ⟨xs,hl,rfl,hdr⟩:=(cY (n:=3) (k:=0) rfl hh).1 rfl
 have nd:(["document","reader","page","x"]:List Str).Nodup:=by decide +kernel
 match xs,hl with
 | [x,y,z],_=>
  obtain ⟨h1,h2,h3⟩:=bv hdr
  obtain ⟨h4,h5,h6⟩:=bv h2
  obtain ⟨h7,h8,h9⟩:=bv h5
  have es:acz st (x,y,z,())=Vamatk.step st (.at_ x y z):=rY so x y z
  refine mT (i:=2) R.num R.ce.cl (hr.mono (by decide)) nd rfl (Or.inl rfl) rd h1 fun H0 rd0 fr0=>?_
  have hd0:=aX.fr R.ap R.ne hd rd.obj rd0.obj fr0
  refine mT (i:=3) R.num R.ce.cl (hr.mono (by decide)) nd rfl (Or.inl rfl) rd0 h4 fun H1 rd1 fr1=>?_
  have hd1:=aX.fr R.ap R.ne hd0 rd0.obj rd1.obj fr1
  refine fe (CE:=CE) (l:=l) (q:=pos+1+1+1) (d:=(x,y,z,())) g R.cd.cl R.ne (hr.mono (by decide)) hd1 so (by decide +kernel) (aq ah (aq ah (aq ah be))) trivial (fun H4 Q1 s1 k1=>?_) (fun v H' a1 a2 a3 a4=>k v H' (pos+1+1+1) (by rw [es] at a1;exact a1) (by rw [es] at a2;exact a2) a3 h9 h8 ((Fr2.right (fr0.trans fr1)).trans a4))
  refine (ab (K:=K) (R:=cI) (d:=x) 2 rfl rfl).now fun v H5 s5 e5=>?_
  have e5:v=.int x:=e5
  subst e5
  refine (ab (K:=K) (R:=cI) (d:=y) 3 rfl rfl).now fun v H6 s6 e6=>?_
  have e6:v=.int y:=e6
  subst e6
  exact iA (i:=1) R.num R.ce.cl (hr.mono (by decide)) (rd1.mono (s1.trans (s5.trans s6))) h7 fun H3 rd3 fr3=>k1 _ _ ⟨_,_,rfl,rfl,_,_,rfl,rfl,_,_,rfl,rfl,rfl⟩ (aX.fr R.ap R.ne (hd1.mono (s1.trans (s5.trans s6))) (rd1.mono (s1.trans (s5.trans s6))).obj rd3.obj fr3) rd3 ((Fr.of (s5.trans s6)).trans fr3)
end
def del (H:Hp)(q:Addr):Hp:=fun b=>if b=q then none else H b
theorem jp {H:Hp}{q:Addr}:del H q q=none:=if_pos rfl
theorem dF {H:Hp}{q b:Addr}(h:b≠q):del H q b=H b:=if_neg h
theorem js {H:Hp}{q b:Addr}{o:HO}(h:del H q b=some o):b≠q/\H b=some o:=by
 by_cases e:b=q
 ·rw [e,jp] at h
  cases h
 ·exact ⟨e,by rw [dF e] at h;exact h⟩
theorem aaL {H:Hp}{q:Addr}:Same (del H q) H:=fun b o e=>(js e).2
theorem Same.del {H H':Hp}{q:Addr}(s:Same H H'):Same (del H q) (del H' q):=fun b o e=>by
 obtain ⟨n,e⟩:=js e
 rw [dF n]
 exact s b o e
theorem Fr.del {H H':Hp}{p q:Addr}(s:Fr p H H'):Fr p (del H q) (del H' q):=fun b o e z=>by
 obtain ⟨n,e⟩:=js e
 rw [dF n]
 exact s b o e z
theorem ac3 {H:Hp}{q:Addr}{o:HO}:del (upd H q o) q=del H q:=by
 funext b
 by_cases e:b=q
 ·rw [e,jp,jp]
 ·rw [dF e,dF e,am e]
abbrev framed (sp:Sp):Sp:=fun vs H Q E=>∃ q xs,H q=some (.lst xs)/\sp vs (del H q) (fun v H'=>H' q=none->Q v (upd H' q (.lst xs))) E
theorem eI.framed {P:Program}{w:World}{K:PySem.W.Frag}{mg:Str->Option Value}{base:Heap}{k:Nat}{f:Addr}{fd:FuncData}{ps:List Str}{sp:Sp}(F:eI P w K mg base CX0 k f fd ps sp):eI P w K mg base CX0 k f fd ps (framed sp):=by
 refine ⟨fun vs H Q E ⟨q,xs,_,h⟩=>F.len _ _ _ _ h,fun A outer s H args us vs Q E hr he hb hv ⟨q,xs,hq,h⟩=>?_⟩
 have hok:HOk P w (del H q) s.heap:=fun a o e=>by
  obtain ⟨n,e⟩:=js e
  refine (he.hok a o e).stay (fun b u _ z=>z) (fun b z=>?_) (fun b ys z=>?_)
  ·rw [dF (b9 z hq (by intro z;cases z))]
   exact z
  ·rw [dF (b9 z hq (by intro z;cases z))]
   exact z
 have he':Env0 P w K mg base A outer s (del H q):=⟨he.frames,he.mod,fun b o z=>⟨(he.bs b o z).1,by by_cases n:b=q;(· rw [n,jp]);· rw [dF n];exact (he.bs b o z).2⟩,he.bsz,he.funs,fun b z=>by by_cases n:b=q;(· rw [n,jp]);· rw [dF n];exact he.frf b z,hok,he.bare⟩
 have r:=F.run A outer s (del H q) args us vs _ E hr he' hb hv h
 refine codeAny_mono r fun res s' c=>?_
 match res,c with
 | .ok (.ret u),c=>
  obtain ⟨v,H',c1,c2,un,c3,c4,c5⟩:=c
  obtain ⟨_,its,n,vs',gq⟩:=(show dH P w H s.heap q (.lst xs) from he.hok q _ hq)
  have hq':H' q=none:=un.free q _ gq jp (by simp)
  have nf:q ∉ frs outer:=fun z=>by
   rw [he.frf q z] at hq
   cases hq
  have gq':=un.keep q _ gq jp nf (by simp)
  have dn:∀ {b},H b=none->del H q b=none:=fun {b} z=>by
   by_cases n:b=q
   ·rw [n,jp]
   ·rw [dF n]
    exact z
  have nq:∀ {b},H b=none->b≠q:=fun {b} z n=>by
   rw [n,hq] at z
   cases z
  refine ⟨v,upd H' q (.lst xs),c1,c2,⟨fun b o z1 z2 z3 z4=>un.keep b o z1 (dn z2) z3 z4,fun b o z1 z2 z3 z4=>un.slot b o z1 (dn z2) z3 z4,fun b o z1 z2 z3=>by rw [am (nq z2)];exact un.free b o z1 (dn z2) z3,un.there,fun b ys z=>?_,fun b o u z=>?_,fun b ps z=>?_⟩,fun b o e=>?_,c4,c5 hq'⟩
  ·have nb:=b9 z hq (by intro z;cases z)
   rw [am nb]
   exact un.tups b ys (by rw [dF nb];exact z)
  ·have nb:=b9 z hq (by intro z;cases z)
   rw [am nb]
   exact un.frzs b o u (by rw [dF nb];exact z)
  ·have nb:=b9 z hq (by intro z;cases z)
   obtain ⟨more,hm⟩:=un.tbls b ps (by rw [dF nb];exact z)
   exact ⟨more,by rw [am nb];exact hm⟩
  ·by_cases nb:b=q
   ·subst nb
    rw [aj] at e
    have e:=Option.some.inj e
    subst e
    exact ⟨(he.hok b _ hq).1,its,n,vs',gq'⟩
   ·rw [am nb] at e
    refine (c3 b o e).stay (fun b u _ z=>z) (fun b z=>?_) (fun b ys z=>?_)
    ·rw [am (aM z hq')]
     exact z
    ·rw [am (aM z hq')]
     exact z
 | .ok .next,c=>exact c.elim
 | .ok .brk,c=>exact c.elim
 | .ok .cont,c=>exact c.elim
 | .error e,c=>exact c.elim
def jA:List Str:=["answer_settings","answer_add","answer_put","answer_change","answer_take","answer_move","answer_block","answer_lines","answer_pages","answer_worth","answer_place","answer_places","answer_at","answer_count"]
structure yF (K:PySem.W.Frag)(mg:Str->Option Value):Prop where
 ex:∃ (a:Addr) (fs:List Addr),mg "CALLS"=some (.ref a)/\(∀ H,SqT K H a (fs.map V.ref))/\∀ (i:Nat) nm,jA[i]?=some nm->∃ f,fs[i]?=some f/\mg nm=some (.ref f)
theorem um {l:List Int}(h:PyVamatk.answers_asked l=true):
  ∃ cs,Bp.Calls l cs/\cs.length<=200/\(∀ c∈cs,VamatkNeutral.asked1 c=true)/\PyVamatk.answers l=PyFlat.told (PyFlat.played VamatkNeutral.step VamatkNeutral.start cs):=by
 unfold PyVamatk.answers_asked at h
 unfold PyVamatk.answers
 unfold PyVamatk.calls at h ⊢
 cases e:PyFlat.calls PyVamatk.shape l.length l with
 | none=>rw [e] at h;cases h
 | some cs=>
  rw [e] at h
  simp only [Bp.aah] at h ⊢
  rw [Bool.and_eq_true] at h
  refine ⟨cs,Bp.vM _ _ _ e,of_decide_eq_true h.1,?_,rfl⟩
  have h2:=h.2
  unfold VamatkNeutral.asked at h2
  rw [Bool.and_eq_true,Bool.and_eq_true] at h2
  exact List.all_eq_true.mp h2.1.1
theorem abx {r:List Int}{c:List (List Int)}{t:List Int}(h:Bp.Head r c t):∃ (i:Nat) (r':List Int),i < 14/\r=(i:Int)::r':=by
 have all:∀ x∈Bp.wS,0<=x.1/\x.1 < 14:=by decide
 cases h with
 | nums p xs t h=>
  have:=all _ (Bp.lZ h)
  exact ⟨p.toNat,_,by omega,by rw [Int.toNat_of_nonneg this.1]⟩
 | row p xs row t h=>
  have:=all _ (Bp.lZ h)
  exact ⟨p.toNat,_,by omega,by rw [Int.toNat_of_nonneg this.1]⟩
theorem zt {st:Vamatk.State}(so:Bp.Sound st)(c:List (List Int)):(VamatkNeutral.step st c).2.length<=72001:=by
 unfold VamatkNeutral.step
 split
 ·exact abp so _
 ·simp
theorem vA {st:Vamatk.State}(so:Bp.Sound st)(c:List (List Int)):Bp.Sound (VamatkNeutral.step st c).1:=by
 unfold VamatkNeutral.step
 split
 ·exact so.step _
 ·exact so
abbrev ya (K:PySem.W.Frag):Sp:=fun vs H Q _=>∃ v l,vs=[v]/\cL cI K l v H/\PyVamatk.answers_asked l=true/\∀ H' p,H' p=some (.lst ((PyVamatk.answers l).map V.int))->Q (.ref p) H'
structure ae2 (kk:Kl)(CD CE:Addr)(K:PySem.W.Frag)(pd dx pr dr a q:Addr)(l:List Int)(m:Nat)(H:Hp)(pos:Nat)(cs:List (List (List Int)))(st:Vamatk.State)(told:List Int):Prop where
 doc:aX kk CD K pd dx st (del H q)
 snd:Bp.Sound st
 rd:cz CE K pr dr a l pos (del H q)
 le:pos<=l.length
 calls:Bp.Calls (l.drop pos) cs
 em:cs.length=m
 ask:∀ c∈cs,VamatkNeutral.asked1 c=true
 lst:H q=some (.lst (told.map V.int))
 ans:told++PyFlat.told (PyFlat.played VamatkNeutral.step st cs)=PyVamatk.answers l
 len:told.length+m * 72002<=200 * 72002
theorem z8 (a:List Int)(l:List (List Int)):PyFlat.told (a::l)=(a.length:Int)::(a++PyFlat.told l):=rfl
theorem vN (s:VamatkNeutral.S)(c:List (List Int))(r:List (List (List Int))):PyFlat.played VamatkNeutral.step s (c::r)=(VamatkNeutral.step s c).2::PyFlat.played VamatkNeutral.step (VamatkNeutral.step s c).1 r:=rfl
section
variable {P:Program}{w:World}{K:PySem.W.Frag}{mg:Str->Option Value}{base:Heap}{kk:Kl}{CD CE:Addr}
theorem xK {fn:Addr}{fd:FuncData}(F:Fun K "answers" "answers" fU fn fd)(R:Rds P w K mg base kk CD CE)(B:Blt mg)(CA:yF K mg)(gR:gz P w K mg base "Reader" CE 1 (spJ K CE (aC (cL cI) aN) (fun _=>True) (fun d x H=>cRd CE K (d.1,0) (.ref x) H)))
  (gD:gz P w K mg base "Document" CD 2 (su K kk CD))(gE:az P w K mg base CE "at_end" 1 (spF K (aC (cRd CE) aN) (fun _=>True) cB (fun d=>decide ((d.1.1.length:Int)<=(d.1.2:Int)))))
  (gA:∀ (i:Nat) nm,jA[i]?=some nm->Cal P w K mg base nm 13 (spA K kk CD CE i)):eI P w K mg base CX0 14 fn fd ["calls"] (ya K):=by
 refine F.ok zH (fun vs H Q E h=>?_) (fun cdv A outer s H vs Q E hr h=>⟨_,gp,?_⟩)
 ·obtain ⟨v,l,rfl,_⟩:=h
  rfl
 obtain ⟨v,l,rfl,h1,ask,k⟩:=h
 have nd:(["calls","reader","document","told","answer_call","answer"]:List Str).Nodup:=by decide +kernel
 obtain ⟨cs,hcs,hcl,hca,hans⟩:=um ask
 obtain ⟨ca,fs,hmC,hsC,hfs⟩:=CA.ex
 refine aF (i:=1) (P:=cRd CE K (l,0)) nd rfl (Or.inl rfl) (tN (d:=(l,())) gR (hr.mono (by decide)) (ad (R:=cL cI) (ab 0 rfl h1) ag) trivial fun y H2 _ r=>r) fun vr H1 s1 r1=>?_
 obtain ⟨pr,dr,a,rfl,rd1⟩:=r1
 obtain ⟨fD,fdD,psD,hmD,hMD,hbD,FD⟩:=gD.ex
 refine bh (pF (i:=2) nd rfl (Or.inl rfl) (abM (E:=E0) (dvs:=[]) hMD FD (hr.mono (by decide)) rfl hmD hbD .nil pass0) rfl (by first | exact .inl rfl | exact .inr rfl)) ?_
 intro pd dx n1 n2 n3
 have s2:Same H1 (upd (upd H1 dx (.own pd)) pd (.ins CD dx [])):=cD (a8 n2) (by rw [am (Ne.symm n3)];exact n1)
 refine ⟨pd,dx,rfl,aj,fun H2 doc2 fr2=>⟨rfl,?_⟩⟩
 have rd2:cz CE K pr dr a l 0 H2:=cz.fr R.ne (rd1.mono s2) (aj (H:=upd H1 dx (.own pd))) fr2
 refine aF (i:=3) (P:=cF H2 cI K []) nd rfl (Or.inl rfl) (bu (R:=cI) (K:=K) (ds:=[]) aJ (Nat.zero_le _)) fun vt H3 s3 r3=>?_
 obtain ⟨q,ys,rfl,nq,hq,zq⟩:=r3
 cases zq
 have s3':Same H2 (del H3 q):=fun b o e=>by
  rw [dF (aM e nq)]
  exact s3 b o e
 refine wD (m:=cs.length) (W:=fun m σ' H'=>∃ (pos:Nat) (cs':List (List (List Int))) (st:Vamatk.State) (told:List Int) (s5 s6:Option V),σ'=[some v,some (.ref pr),some (.ref pd),some (.ref q),s5,s6]/\ae2 kk CD CE K pd dx pr dr a q l m H' pos cs' st told) PassesOwn.never
  ⟨0,cs,Vamatk.start,[],none,none,rfl,⟨doc2.mono s3',Bp.vC,rd2.mono s3',Nat.zero_le _,hcs,rfl,hca,hq,hans.symm,by rw [List.length_nil];have:=Nat.mul_le_mul_right 72002 hcl;omega⟩⟩ ?_
 rintro m σ' H4 ⟨pos,cs',st,told,s5,s6,rfl,W⟩
 have rd4:cz CE K pr dr a l pos H4:=W.rd.mono aaL
 refine ⟨!(decide ((l.length:Int)<=(pos:Int))),bN (bn (hX R.ce.cl gE (hr.mono (by decide)) (ab (R:=cRd CE) (d:=(l,pos)) 1 rfl ⟨pr,dr,a,rfl,rd4⟩) (cRd.meth (by decide +kernel)) trivial)),fun ht H5 s5'=>?_,fun ht H5 s5'=>?_⟩
 ·have hlt:pos < l.length:=by
   have:¬ ((l.length:Int)<=(pos:Int)):=by simpa using ht
   omega
  cases hC:cs' with
  | nil=>
   have:=W.calls
   rw [hC] at this
   generalize eD:l.drop pos=D0 at this
   cases this
   have:(l.drop pos).length=0:=by rw [eD];rfl
   rw [List.length_drop] at this
   omega
  | cons c cs2=>
   subst hC
   have W0:=W.calls
   generalize eD:l.drop pos=D0 at W0
   cases W0 with
   | @cons _ t _ _ hh hcs2=>
    obtain ⟨i,r',hi,er⟩:=abx hh
    obtain ⟨h2,h3,h4⟩:=bv (eD.trans er)
    obtain ⟨nm,hnm⟩:∃ nm,jA[i]?=some nm:=⟨_,List.getElem?_eq_getElem (show i < jA.length from hi)⟩
    obtain ⟨fA,fdA,psA,hmA,hkA,hbA,FA⟩:=(gA i nm hnm).ex
    obtain ⟨f',hf',hm'⟩:=hfs i nm hnm
    have ef:f'=fA:=by
     have z:=hm'.symm.trans hmA
     injection z with z
     injection z
    subst ef
    have hm0:cs2.length+1=m:=W.em
    have nrq:q≠pr:=Ne.symm (js W.rd.obj).1
    have hlen:told.length < sizeLine:=by
     have:=W.len
     have h200:200 * 72002 < sizeLine:=by decide +kernel
     omega
    refine ⟨fun σ2 H3=>∃ m',m' < m/\∃ (pos:Nat) (cs':List (List (List Int))) (st:Vamatk.State) (told:List Int) (s5 s6:Option V),σ2=[some v,some (.ref pr),some (.ref pd),some (.ref q),s5,s6]/\ae2 kk CD CE K pd dx pr dr a q l m' H3 pos cs' st told,fun σ2 H3 z=>z,?_⟩
    refine bh (pF (i:=4) nd rfl (Or.inl rfl) (yd uo ah ah (by intro _ _;rfl)) rfl (by first | exact .inl rfl | exact .inr rfl)) ?_
    refine (k3 (P:=cV K (.ref ca)) (v:=.ref ca) hmC rfl (fun _=>rfl)).now fun u H6 s6' e6=>?_
    have e6:u=.ref ca:=e6
    have s46:=s5'.trans s6'
    refine iA (i:=1) R.num R.ce.cl (hr.mono (by decide)) (rd4.mono s46) h2 fun H7 rd7 fr7=>?_
    refine ⟨ca,fs.map V.ref,(i:Int),.ref f',e6,rfl,hsC H7,al (j:=i) rfl (by rw [List.getElem?_map,hf'];rfl),?_⟩
    have rd6:=W.rd.mono (Same.del s46)
    have rd7':cz CE K pr dr a l (pos+1) (del H7 q):=⟨by rw [dF (Ne.symm nrq)];exact rd7.obj,SqL.fr rd6.obj (Fr.del fr7) rd6.lst⟩
    have doc7:=aX.fr R.ap R.ne (W.doc.mono (Same.del s46)) rd6.obj rd7'.obj (Fr.del fr7)
    have lst7:H7 q=some (.lst (told.map V.int)):=fr7 _ _ (s46 _ _ W.lst) nrq
    refine bh (pF (i:=5) nd rfl (Or.inl rfl) (abn (i:=4) (eI.framed FA) hr hkA hbA (aq ah (aq ah be)) rfl (by first | exact Or.inl rfl | exact Or.inr (Or.inl rfl) | exact Or.inr (Or.inr rfl))) rfl (by first | exact .inl rfl | exact .inr rfl)) ⟨rfl,?_⟩
    refine (ab (K:=K) (R:=cV) (d:=.ref pd) 2 rfl rfl).now fun v1 H8 s8 e8=>?_
    refine (ab (K:=K) (R:=cV) (d:=.ref pr) 1 rfl rfl).now fun v2 H9 s9 e9=>?_
    have e8:v1=.ref pd:=e8
    have e9:v2=.ref pr:=e9
    subst e8 e9
    have s79:=s8.trans s9
    refine ⟨q,told.map V.int,s79 _ _ lst7,pd,dx,pr,dr,a,l,pos+1,st,c,t,rfl,doc7.mono (Same.del s79),W.snd,rd7'.mono (Same.del s79),h4,by rw [h3,<-er];exact hh,W.ask c List.mem_cons_self,fun va HA pA a1 a2 a3 a4 a5 a6 nA=>?_⟩
    have sA:Same HA (upd HA q (.lst (told.map V.int))):=a8 nA
    obtain ⟨b,xs,rfl,hb,zb⟩:=a1
    have exs:=zb.ints
    subst exs
    have nbq:b≠q:=aM hb nA
    have hl:=zt W.snd c
    generalize ean:(VamatkNeutral.step st c).2=an at *
    refine cw (pa:=q) (xs:=told.map V.int) (P:=cI K (an.length:Int)) (ab (R:=cV) (K:=K) (d:=.ref q) 3 rfl rfl) (dc (K:=K) (R:=cI) (PX.toQ (ab (R:=cL cI) (d:=an) 5 rfl ⟨b,_,rfl,SqL.of (sA _ _ hb),All.of_ints an⟩)) B.len) aj (by rw [List.length_map];exact hlen) fun vn HB sB eB=>?_
    have eB:vn=.int (an.length:Int):=eB
    subst eB
    have hbB:HB b=some (.lst (an.map V.int)):=sB _ _ (sA _ _ hb)
    refine eJ (pa:=q) (xs:=told.map V.int++[V.int (an.length:Int)]) (Pz:=fun zs _=>zs=an.map V.int) (ab (R:=cV) (K:=K) (d:=.ref q) 3 rfl rfl) (PX.imp (ab (R:=cV) (K:=K) (d:=.ref b) 5 rfl rfl) fun u HC sC eC=>⟨b,_,eC,sC _ _ (by rw [am nbq];exact hbB),rfl⟩) aj (fun zs H' _ ez=>?_) fun zs HD sD ez=>?_
    ·rw [ez,List.length_append,List.length_map,List.length_map,List.length_singleton]
     have:=W.len
     have h200:200 * 72002 < sizeLine:=by decide +kernel
     omega
    ·subst ez
     have sT:Same HA (del (upd HD q (.lst ((told.map V.int++[V.int (an.length:Int)])++an.map V.int))) q):=by
      rw [ac3]
      intro b' o' e'
      have n':b'≠q:=aM e' nA
      rw [dF n']
      refine sD _ _ ?_
      rw [am n']
      exact sB _ _ (sA _ _ e')
     refine bj ⟨cs2.length,by omega,pA,cs2,(VamatkNeutral.step st c).1,(told++[(an.length:Int)])++an,_,_,rfl,⟨a2.mono sT,vA W.snd c,a3.mono sT,a4,by rw [a5];exact hcs2,rfl,fun c' hc'=>W.ask c' (List.mem_cons_of_mem _ hc'),?_,?_,?_⟩⟩
     ·rw [aj,List.map_append,List.map_append]
      rfl
     ·rw [<-W.ans,vN,z8,ean]
      simp
     ·have:=W.len
      rw [List.length_append,List.length_append,List.length_singleton]
      omega
 ·have hle:l.length<=pos:=by
   have:((l.length:Int)<=(pos:Int)):=by simpa using ht
   omega
  have e0:l.drop pos=[]:=List.drop_eq_nil_of_le hle
  have e1:cs'=[]:=by
   have:=W.calls
   rw [e0] at this
   cases this with
   | nil=>rfl
   | cons h _=>exact absurd (Bp.aa9 h) (by simp)
  subst e1
  have e2:told=PyVamatk.answers l:=by
   have:=W.ans
   simpa [PyFlat.played,PyFlat.told] using this
  refine ai (P:=cV K (.ref q)) (ab (R:=cV) 3 rfl rfl) fun u H9 s9 e9=>?_
  have e9:u=.ref q:=e9
  subst e9
  exact k H9 q (s9 _ _ (s5' _ _ (by rw [<-e2];exact W.lst)))
end
abbrev FnT (K:PySem.W.Frag)(x qual:Str)(st:Stmt)(f:Addr):Prop:=∃ (oc:Value) (od an:Option Addr) (osl:Array (Option Value)) (kV doc pm cdv ct:Value),K.lookup f=some ⟨oc,od,.func (PySem.W.fnOf x qual (jC st) (eZ st) (ae st) .none kV doc pm an cdv ct),osl⟩/\PySem.W.codeIn K cdv qual=true/\PySem.W.keepIn K (.ref f)=true
abbrev GlT (K:PySem.W.Frag)(x:Str)(st:Stmt):Prop:=∃ f,PySem.W.nsIn K mainGlobals x=some (some (.ref f))/\FnT K x x st f
abbrev MeT (K:PySem.W.Frag)(C:Addr)(m qual:Str)(st:Stmt):Prop:=∃ f,PySem.W.findIn K (.ref C) m=some (some (.ref f))/\PySem.W.isFn K (.ref f)=true/\FnT K m qual st f
abbrev BiT (x qual:Str)(st:Stmt)(ps:List Str):Prop:=∀ (kV doc pm:Value) (an:Option Addr) (cdv ct:Value) (us:List Value),us.length=ps.length->bindArgs (PySem.W.fnOf x qual (jC st) (eZ st) (ae st) .none kV doc pm an cdv ct) ⟨us,[]⟩=pure (ps.zip us)
abbrev ClT (K:PySem.W.Frag)(x:Str)(C:Addr):Prop:=PySem.W.nsIn K mainGlobals x=some (some (.ref C))/\PySem.W.plainGet K C Str.empty=true/\PySem.W.hasDictIn K C=true/\PySem.W.plainOver K C=true/\PySem.W.findIn K (.ref C) "__setattr__"=some (some (.builtin "object.__setattr__"))/\PySem.W.makesIn K C=true/\PySem.W.keepIn K (.ref C)=true
section
variable {K:PySem.W.Frag}{h:Heap}{mg:Str->Option Value}{x qual m:Str}{st:Stmt}{ps:List Str}{C:Addr}
theorem au (X:K.In h)(G:h.Ns mainGlobals mg)(t:GlT K x st)(b:BiT x x st ps):aW K mg x st ps:=by
 obtain ⟨f,a,oc,od,an,osl,kV,doc,pm,cdv,ct,l,c,k⟩:=t
 have F:=tG (st:=st) l c k
 exact ⟨f,_,PySem.W.mg_of X G a,F,F.binds b⟩
theorem aG (t:MeT K C m qual st)(b:BiT m qual st ps):aT K C m qual st ps:=by
 obtain ⟨f,a,i,oc,od,an,osl,kV,doc,pm,cdv,ct,l,c,k⟩:=t
 have F:=tG (st:=st) l c k
 exact ⟨f,_,⟨a,i,k⟩,F,F.binds b⟩
theorem fu (X:K.In h)(G:h.Ns mainGlobals mg)(t:ClT K x C)(e:MeT K C "__init__" qual st)(b:BiT "__init__" qual st ps):gr K mg x C qual st ps:=by
 obtain ⟨f,a,i,oc,od,an,osl,kV,doc,pm,cdv,ct,l,c,k⟩:=e
 have F:=tG (st:=st) l c k
 exact ⟨f,_,PySem.W.mg_of X G t.1,⟨t.2.2.2.2.2.1,a,i,t.2.2.2.2.2.2⟩,F,F.binds b⟩
theorem gB (t:ClT K x C):Cls K C:=⟨t.2.1,t.2.2.1,t.2.2.2.1,t.2.2.2.2.1⟩
theorem aL (X:K.In h)(G:h.Ns mainGlobals mg){n:Int}(t:∃ k,PySem.W.nsIn K mainGlobals x=some (some (.int n k))):bP mg x n:=let ⟨k,e⟩:=t;⟨k,PySem.W.mg_of X G e⟩
abbrev PrT (K:PySem.W.Frag)(b:Addr)(i j:Int):Prop:=∃ (od:Option Addr) (t u:Tok) (n:Nat) (sl:Array (Option Value)),K.lookup b=some ⟨.type "tuple",od,.seq #[.int i t,.int j u] n,sl⟩
theorem dD {b:Addr}{i j:Int}(t:PrT K b i j)(H:Hp):c2 cI cI K (i,j) (.ref b) H:=by
 obtain ⟨od,t,u,n,sl,e⟩:=t
 exact ⟨b,.int i,.int j,rfl,.inr ⟨_,_,n,e,rfl,rfl,(by show 2<=sizeLine;decide),.cons ⟨t,rfl⟩ (.cons ⟨u,rfl⟩ .nil)⟩,rfl,rfl⟩
end
theorem tR:BiT "all_within" "all_within" fO ["numbers","ranges"]:=fun _ _ _ _ _ _ us hl=>match us,hl with | [_,_],_=>rfl
theorem qm:BiT "is_paragraph" "is_paragraph" d4 ["block"]:=fun _ _ _ _ _ _ us hl=>match us,hl with | [_],_=>rfl
theorem fz:BiT "items_between" "items_between" bR ["block","first","last"]:=fun _ _ _ _ _ _ us hl=>match us,hl with | [_,_,_],_=>rfl
theorem qK:BiT "items_of" "items_of" gj ["block"]:=fun _ _ _ _ _ _ us hl=>match us,hl with | [_],_=>rfl
theorem qh:BiT "sizes_of" "sizes_of" gn ["block"]:=fun _ _ _ _ _ _ us hl=>match us,hl with | [_],_=>rfl
theorem uF:BiT "item_count" "item_count" fK ["block"]:=fun _ _ _ _ _ _ us hl=>match us,hl with | [_],_=>rfl
theorem uq:BiT "item_total" "item_total" fH ["blocks"]:=fun _ _ _ _ _ _ us hl=>match us,hl with | [_],_=>rfl
theorem xi:BiT "has_form" "has_form" iF ["numbers"]:=fun _ _ _ _ _ _ us hl=>match us,hl with | [_],_=>rfl
theorem nP:BiT "head_in_range" "head_in_range" dI ["block"]:=fun _ _ _ _ _ _ us hl=>match us,hl with | [_],_=>rfl
theorem nG:BiT "item_in_range" "item_in_range" dY ["item"]:=fun _ _ _ _ _ _ us hl=>match us,hl with | [_],_=>rfl
theorem ju:BiT "paragraph_in_range" "paragraph_in_range" bW ["block"]:=fun _ _ _ _ _ _ us hl=>match us,hl with | [_],_=>rfl
theorem lL:BiT "block_in_range" "block_in_range" di ["block"]:=fun _ _ _ _ _ _ us hl=>match us,hl with | [_],_=>rfl
theorem nV:BiT "block_refusal" "block_refusal" dQ ["numbers","others"]:=fun _ _ _ _ _ _ us hl=>match us,hl with | [_,_],_=>rfl
theorem xr:BiT "way_with" "way_with" iL ["pieces","start","end","room","rest"]:=fun _ _ _ _ _ _ us hl=>match us,hl with | [_,_,_,_,_],_=>rfl
theorem xR:BiT "best_way" "best_way" ir ["pieces","start","farthest","room","ways"]:=fun _ _ _ _ _ _ us hl=>match us,hl with | [_,_,_,_,_],_=>rfl
theorem wz:BiT "best_ways" "best_ways" gL ["pieces","first_room","room"]:=fun _ _ _ _ _ _ us hl=>match us,hl with | [_,_,_],_=>rfl
theorem n0:BiT "best_breaking" "best_breaking" dU ["row","first_room","room"]:=fun _ _ _ _ _ _ us hl=>match us,hl with | [_,_,_],_=>rfl
theorem abT:BiT "extent" "extent" lH ["line"]:=fun _ _ _ _ _ _ us hl=>match us,hl with | [_],_=>rfl
theorem rp:BiT "column_item" "column_item" fg ["line","below","blocks","settings"]:=fun _ _ _ _ _ _ us hl=>match us,hl with | [_,_,_,_],_=>rfl
theorem uy:BiT "column_row" "column_row" fP ["lines","blocks","settings"]:=fun _ _ _ _ _ _ us hl=>match us,hl with | [_,_,_],_=>rfl
theorem nZ:BiT "paragraph_row" "paragraph_row" dX ["block"]:=fun _ _ _ _ _ _ us hl=>match us,hl with | [_],_=>rfl
theorem rG:BiT "block_spans" "block_spans" fi ["block","settings"]:=fun _ _ _ _ _ _ us hl=>match us,hl with | [_,_],_=>rfl
theorem rH:BiT "block_lines" "block_lines" eX ["blocks","settings"]:=fun _ _ _ _ _ _ us hl=>match us,hl with | [_,_],_=>rfl
theorem wn:BiT "baselines" "baselines" gG ["lines","row","span"]:=fun _ _ _ _ _ _ us hl=>match us,hl with | [_,_,_],_=>rfl
theorem uW:BiT "display_x" "display_x" gM ["block","settings"]:=fun _ _ _ _ _ _ us hl=>match us,hl with | [_,_],_=>rfl
theorem zD:BiT "item_xs" "item_xs" jF ["line","block","settings"]:=fun _ _ _ _ _ _ us hl=>match us,hl with | [_,_,_],_=>rfl
theorem uD:BiT "item_spots" "item_spots" fM ["lines","row","pages","blocks","settings"]:=fun _ _ _ _ _ _ us hl=>match us,hl with | [_,_,_,_,_],_=>rfl
theorem aa2:BiT "covers" "covers" lc ["spot","size","x","y"]:=fun _ _ _ _ _ _ us hl=>match us,hl with | [_,_,_,_],_=>rfl
theorem zI:BiT "without" "without" jB ["blocks","i"]:=fun _ _ _ _ _ _ us hl=>match us,hl with | [_,_],_=>rfl
theorem uN:BiT "with_block" "with_block" fQ ["blocks","i","block"]:=fun _ _ _ _ _ _ us hl=>match us,hl with | [_,_,_],_=>rfl
theorem ln:BiT "answer_settings" "answer_settings" c8 ["document","reader"]:=fun _ _ _ _ _ _ us hl=>match us,hl with | [_,_],_=>rfl
theorem tE:BiT "answer_add" "answer_add" fI ["document","reader"]:=fun _ _ _ _ _ _ us hl=>match us,hl with | [_,_],_=>rfl
theorem sV:BiT "answer_put" "answer_put" fR ["document","reader"]:=fun _ _ _ _ _ _ us hl=>match us,hl with | [_,_],_=>rfl
theorem nB:BiT "answer_change" "answer_change" dR ["document","reader"]:=fun _ _ _ _ _ _ us hl=>match us,hl with | [_,_],_=>rfl
theorem rO:BiT "answer_take" "answer_take" fc ["document","reader"]:=fun _ _ _ _ _ _ us hl=>match us,hl with | [_,_],_=>rfl
theorem rD:BiT "answer_move" "answer_move" fb ["document","reader"]:=fun _ _ _ _ _ _ us hl=>match us,hl with | [_,_],_=>rfl
theorem oX:BiT "answer_block" "answer_block" ey ["document","reader"]:=fun _ _ _ _ _ _ us hl=>match us,hl with | [_,_],_=>rfl
theorem oQ:BiT "answer_lines" "answer_lines" d9 ["document","reader"]:=fun _ _ _ _ _ _ us hl=>match us,hl with | [_,_],_=>rfl
theorem pS:BiT "answer_pages" "answer_pages" eu ["document","reader"]:=fun _ _ _ _ _ _ us hl=>match us,hl with | [_,_],_=>rfl
theorem qD:BiT "answer_worth" "answer_worth" el ["document","reader"]:=fun _ _ _ _ _ _ us hl=>match us,hl with | [_,_],_=>rfl
theorem qQ:BiT "answer_place" "answer_place" d5 ["document","reader"]:=fun _ _ _ _ _ _ us hl=>match us,hl with | [_,_],_=>rfl
theorem oa:BiT "answer_places" "answer_places" dP ["document","reader"]:=fun _ _ _ _ _ _ us hl=>match us,hl with | [_,_],_=>rfl
theorem vG:BiT "answer_at" "answer_at" gC ["document","reader"]:=fun _ _ _ _ _ _ us hl=>match us,hl with | [_,_],_=>rfl
theorem oV:BiT "answer_count" "answer_count" d7 ["document","reader"]:=fun _ _ _ _ _ _ us hl=>match us,hl with | [_,_],_=>rfl
theorem zm:BiT "answers" "answers" fU ["calls"]:=fun _ _ _ _ _ _ us hl=>match us,hl with | [_],_=>rfl
theorem pf:BiT "__init__" "RowItem.__init__" ec ["self","width","space","shrink","cost"]:=fun _ _ _ _ _ _ us hl=>match us,hl with | [_,_,_,_,_],_=>rfl
theorem u5:BiT "__init__" "Span.__init__" gJ ["self","first","last","slack","overfull","cost"]:=fun _ _ _ _ _ _ us hl=>match us,hl with | [_,_,_,_,_,_],_=>rfl
theorem rV:BiT "__init__" "Pieces.__init__" fk ["self","row"]:=fun _ _ _ _ _ _ us hl=>match us,hl with | [_,_],_=>rfl
theorem nE:BiT "gather" "Pieces.gather" dS ["self","row"]:=fun _ _ _ _ _ _ us hl=>match us,hl with | [_,_],_=>rfl
theorem jL:BiT "last_piece" "Pieces.last_piece" cn ["self"]:=fun _ _ _ _ _ _ us hl=>match us,hl with | [_],_=>rfl
theorem kS:BiT "slack_of" "Pieces.slack_of" c9 ["self","start","end","room"]:=fun _ _ _ _ _ _ us hl=>match us,hl with | [_,_,_,_],_=>rfl
theorem i8:BiT "overfull_of" "Pieces.overfull_of" bS ["self","start","end","room"]:=fun _ _ _ _ _ _ us hl=>match us,hl with | [_,_,_,_],_=>rfl
theorem lT:BiT "cost_of" "Pieces.cost_of" dm ["self","end","slack"]:=fun _ _ _ _ _ _ us hl=>match us,hl with | [_,_,_],_=>rfl
theorem rg:BiT "span" "Pieces.span" eW ["self","start","end","room"]:=fun _ _ _ _ _ _ us hl=>match us,hl with | [_,_,_,_],_=>rfl
theorem mR:BiT "__init__" "BlockLine.__init__" dq ["self","owner","span","sizes"]:=fun _ _ _ _ _ _ us hl=>match us,hl with | [_,_,_,_],_=>rfl
theorem wj:BiT "__init__" "Spot.__init__" gK ["self","page","x","y"]:=fun _ _ _ _ _ _ us hl=>match us,hl with | [_,_,_,_],_=>rfl
theorem wm:BiT "told" "Spot.told" gH ["self"]:=fun _ _ _ _ _ _ us hl=>match us,hl with | [_],_=>rfl
theorem rK:BiT "__init__" "Layout.__init__" eY ["self","settings","blocks"]:=fun _ _ _ _ _ _ us hl=>match us,hl with | [_,_,_],_=>rfl
theorem jP:BiT "told_lines" "Layout.told_lines" cq ["self"]:=fun _ _ _ _ _ _ us hl=>match us,hl with | [_],_=>rfl
theorem jO:BiT "told_pages" "Layout.told_pages" ci ["self"]:=fun _ _ _ _ _ _ us hl=>match us,hl with | [_],_=>rfl
theorem jH:BiT "told_worth" "Layout.told_worth" cj ["self"]:=fun _ _ _ _ _ _ us hl=>match us,hl with | [_],_=>rfl
theorem lf:BiT "has_item" "Layout.has_item" c6 ["self","i","k"]:=fun _ _ _ _ _ _ us hl=>match us,hl with | [_,_,_],_=>rfl
theorem jM:BiT "told_place" "Layout.told_place" cf ["self","i","k"]:=fun _ _ _ _ _ _ us hl=>match us,hl with | [_,_,_],_=>rfl
theorem jj:BiT "told_places" "Layout.told_places" bX ["self","i"]:=fun _ _ _ _ _ _ us hl=>match us,hl with | [_,_],_=>rfl
theorem lW:BiT "told_at" "Layout.told_at" du ["self","page","x","y"]:=fun _ _ _ _ _ _ us hl=>match us,hl with | [_,_,_,_],_=>rfl
theorem nO:BiT "__init__" "Document.__init__" cJ ["self"]:=fun _ _ _ _ _ _ us hl=>match us,hl with | [_],_=>rfl
theorem nM:BiT "hold" "Document.hold" dM ["self","settings","blocks"]:=fun _ _ _ _ _ _ us hl=>match us,hl with | [_,_,_],_=>rfl
theorem kW:BiT "settle" "Document.settle" c7 ["self","numbers"]:=fun _ _ _ _ _ _ us hl=>match us,hl with | [_,_],_=>rfl
theorem pR:BiT "add" "Document.add" eA ["self","numbers"]:=fun _ _ _ _ _ _ us hl=>match us,hl with | [_,_],_=>rfl
theorem pX:BiT "put" "Document.put" et ["self","i","numbers"]:=fun _ _ _ _ _ _ us hl=>match us,hl with | [_,_,_],_=>rfl
theorem ld:BiT "change" "Document.change" cZ ["self","i","numbers"]:=fun _ _ _ _ _ _ us hl=>match us,hl with | [_,_,_],_=>rfl
theorem ou:BiT "take" "Document.take" dO ["self","i"]:=fun _ _ _ _ _ _ us hl=>match us,hl with | [_,_],_=>rfl
theorem nW:BiT "move" "Document.move" dW ["self","i","j"]:=fun _ _ _ _ _ _ us hl=>match us,hl with | [_,_,_],_=>rfl
theorem mf:BiT "block" "Document.block" dl ["self","i"]:=fun _ _ _ _ _ _ us hl=>match us,hl with | [_,_],_=>rfl
theorem mX:BiT "lines" "Document.lines" dA ["self"]:=fun _ _ _ _ _ _ us hl=>match us,hl with | [_],_=>rfl
theorem mH:BiT "pages" "Document.pages" dh ["self"]:=fun _ _ _ _ _ _ us hl=>match us,hl with | [_],_=>rfl
theorem l0:BiT "worth" "Document.worth" dk ["self"]:=fun _ _ _ _ _ _ us hl=>match us,hl with | [_],_=>rfl
theorem mz:BiT "place" "Document.place" dg ["self","i","k"]:=fun _ _ _ _ _ _ us hl=>match us,hl with | [_,_,_],_=>rfl
theorem kZ:BiT "places" "Document.places" cS ["self","i"]:=fun _ _ _ _ _ _ us hl=>match us,hl with | [_,_],_=>rfl
theorem rN:BiT "at" "Document.at" fj ["self","page","x","y"]:=fun _ _ _ _ _ _ us hl=>match us,hl with | [_,_,_,_],_=>rfl
theorem mm:BiT "count" "Document.count" dz ["self"]:=fun _ _ _ _ _ _ us hl=>match us,hl with | [_],_=>rfl
theorem jt:BiT "has_block" "Document.has_block" bU ["self","i"]:=fun _ _ _ _ _ _ us hl=>match us,hl with | [_,_],_=>rfl
theorem jK:BiT "laid_out" "Document.laid_out" ck ["self"]:=fun _ _ _ _ _ _ us hl=>match us,hl with | [_],_=>rfl
theorem iJ:BiT "place_among" "Document.place_among" bF ["self","others","i","numbers"]:=fun _ _ _ _ _ _ us hl=>match us,hl with | [_,_,_,_],_=>rfl
theorem rC:BiT "__init__" "Reader.__init__" ff ["self","calls"]:=fun _ _ _ _ _ _ us hl=>match us,hl with | [_,_],_=>rfl
theorem nJ:BiT "at_end" "Reader.at_end" dJ ["self"]:=fun _ _ _ _ _ _ us hl=>match us,hl with | [_],_=>rfl
theorem oq:BiT "number" "Reader.number" dN ["self"]:=fun _ _ _ _ _ _ us hl=>match us,hl with | [_],_=>rfl
theorem md:BiT "numbers" "Reader.numbers" cv ["self","size"]:=fun _ _ _ _ _ _ us hl=>match us,hl with | [_,_],_=>rfl
theorem tO:BiT "row" "Reader.row" fS ["self"]:=fun _ _ _ _ _ _ us hl=>match us,hl with | [_],_=>rfl
structure TxF (K:PySem.W.Frag):Prop where
 all_within:GlT K "all_within" fO
 is_paragraph:GlT K "is_paragraph" d4
 items_between:GlT K "items_between" bR
 items_of:GlT K "items_of" gj
 sizes_of:GlT K "sizes_of" gn
 item_count:GlT K "item_count" fK
 item_total:GlT K "item_total" fH
 has_form:GlT K "has_form" iF
 head_in_range:GlT K "head_in_range" dI
 item_in_range:GlT K "item_in_range" dY
 paragraph_in_range:GlT K "paragraph_in_range" bW
 block_in_range:GlT K "block_in_range" di
 block_refusal:GlT K "block_refusal" dQ
 way_with:GlT K "way_with" iL
 best_way:GlT K "best_way" ir
 best_ways:GlT K "best_ways" gL
 best_breaking:GlT K "best_breaking" dU
 extent:GlT K "extent" lH
 column_item:GlT K "column_item" fg
 column_row:GlT K "column_row" fP
 paragraph_row:GlT K "paragraph_row" dX
 block_spans:GlT K "block_spans" fi
 block_lines:GlT K "block_lines" eX
 baselines:GlT K "baselines" gG
 display_x:GlT K "display_x" gM
 item_xs:GlT K "item_xs" jF
 item_spots:GlT K "item_spots" fM
 covers:GlT K "covers" lc
 without:GlT K "without" jB
 with_block:GlT K "with_block" fQ
 answer_settings:GlT K "answer_settings" c8
 answer_add:GlT K "answer_add" fI
 answer_put:GlT K "answer_put" fR
 answer_change:GlT K "answer_change" dR
 answer_take:GlT K "answer_take" fc
 answer_move:GlT K "answer_move" fb
 answer_block:GlT K "answer_block" ey
 answer_lines:GlT K "answer_lines" d9
 answer_pages:GlT K "answer_pages" eu
 answer_worth:GlT K "answer_worth" el
 answer_place:GlT K "answer_place" d5
 answer_places:GlT K "answer_places" dP
 answer_at:GlT K "answer_at" gC
 answer_count:GlT K "answer_count" d7
 answers:GlT K "answers" fU
structure TxC (K:PySem.W.Frag)(CR CS CP CB CT CL CD CE:Addr):Prop where
 RowItem:ClT K "RowItem" CR
 Span:ClT K "Span" CS
 Pieces:ClT K "Pieces" CP
 BlockLine:ClT K "BlockLine" CB
 Spot:ClT K "Spot" CT
 Layout:ClT K "Layout" CL
 Document:ClT K "Document" CD
 Reader:ClT K "Reader" CE
 RowItem_a_width:PySem.W.findIn K (.ref CR) "width"=some none
 RowItem_a_space:PySem.W.findIn K (.ref CR) "space"=some none
 RowItem_a_shrink:PySem.W.findIn K (.ref CR) "shrink"=some none
 RowItem_a_cost:PySem.W.findIn K (.ref CR) "cost"=some none
 RowItem_m_init:MeT K CR "__init__" "RowItem.__init__" ec
 Span_a_first:PySem.W.findIn K (.ref CS) "first"=some none
 Span_a_last:PySem.W.findIn K (.ref CS) "last"=some none
 Span_a_slack:PySem.W.findIn K (.ref CS) "slack"=some none
 Span_a_overfull:PySem.W.findIn K (.ref CS) "overfull"=some none
 Span_a_cost:PySem.W.findIn K (.ref CS) "cost"=some none
 Span_m_init:MeT K CS "__init__" "Span.__init__" gJ
 Pieces_a_first:PySem.W.findIn K (.ref CP) "first_items"=some none
 Pieces_a_last:PySem.W.findIn K (.ref CP) "last_items"=some none
 Pieces_a_costs:PySem.W.findIn K (.ref CP) "costs"=some none
 Pieces_a_lefts:PySem.W.findIn K (.ref CP) "lefts"=some none
 Pieces_a_rights:PySem.W.findIn K (.ref CP) "rights"=some none
 Pieces_a_tlefts:PySem.W.findIn K (.ref CP) "tight_lefts"=some none
 Pieces_a_trights:PySem.W.findIn K (.ref CP) "tight_rights"=some none
 Pieces_m_init:MeT K CP "__init__" "Pieces.__init__" fk
 Pieces_m_gather:MeT K CP "gather" "Pieces.gather" dS
 Pieces_m_last_piece:MeT K CP "last_piece" "Pieces.last_piece" cn
 Pieces_m_slack_of:MeT K CP "slack_of" "Pieces.slack_of" c9
 Pieces_m_overfull_of:MeT K CP "overfull_of" "Pieces.overfull_of" bS
 Pieces_m_cost_of:MeT K CP "cost_of" "Pieces.cost_of" dm
 Pieces_m_span:MeT K CP "span" "Pieces.span" eW
 BlockLine_a_owner:PySem.W.findIn K (.ref CB) "owner"=some none
 BlockLine_a_first:PySem.W.findIn K (.ref CB) "first"=some none
 BlockLine_a_last:PySem.W.findIn K (.ref CB) "last"=some none
 BlockLine_a_height:PySem.W.findIn K (.ref CB) "height"=some none
 BlockLine_a_depth:PySem.W.findIn K (.ref CB) "depth"=some none
 BlockLine_a_overfull:PySem.W.findIn K (.ref CB) "overfull"=some none
 BlockLine_a_opens:PySem.W.findIn K (.ref CB) "opens"=some none
 BlockLine_a_closes:PySem.W.findIn K (.ref CB) "closes"=some none
 BlockLine_m_init:MeT K CB "__init__" "BlockLine.__init__" dq
 Spot_a_page:PySem.W.findIn K (.ref CT) "page"=some none
 Spot_a_x:PySem.W.findIn K (.ref CT) "x"=some none
 Spot_a_y:PySem.W.findIn K (.ref CT) "y"=some none
 Spot_m_init:MeT K CT "__init__" "Spot.__init__" gK
 Spot_m_told:MeT K CT "told" "Spot.told" gH
 Layout_a_blocks:PySem.W.findIn K (.ref CL) "set_blocks"=some none
 Layout_a_lines:PySem.W.findIn K (.ref CL) "set_lines"=some none
 Layout_a_pages:PySem.W.findIn K (.ref CL) "set_pages"=some none
 Layout_a_spots:PySem.W.findIn K (.ref CL) "spots"=some none
 Layout_m_init:MeT K CL "__init__" "Layout.__init__" eY
 Layout_m_told_lines:MeT K CL "told_lines" "Layout.told_lines" cq
 Layout_m_told_pages:MeT K CL "told_pages" "Layout.told_pages" ci
 Layout_m_told_worth:MeT K CL "told_worth" "Layout.told_worth" cj
 Layout_m_has_item:MeT K CL "has_item" "Layout.has_item" c6
 Layout_m_told_place:MeT K CL "told_place" "Layout.told_place" cf
 Layout_m_told_places:MeT K CL "told_places" "Layout.told_places" bX
 Layout_m_told_at:MeT K CL "told_at" "Layout.told_at" du
 Document_a_settings:PySem.W.findIn K (.ref CD) "settings"=some none
 Document_a_blocks:PySem.W.findIn K (.ref CD) "blocks"=some none
 Document_a_layout:PySem.W.findIn K (.ref CD) "layout"=some none
 Document_m_init:MeT K CD "__init__" "Document.__init__" cJ
 Document_m_hold:MeT K CD "hold" "Document.hold" dM
 Document_m_settle:MeT K CD "settle" "Document.settle" c7
 Document_m_add:MeT K CD "add" "Document.add" eA
 Document_m_put:MeT K CD "put" "Document.put" et
 Document_m_change:MeT K CD "change" "Document.change" cZ
 Document_m_take:MeT K CD "take" "Document.take" dO
 Document_m_move:MeT K CD "move" "Document.move" dW
 Document_m_block:MeT K CD "block" "Document.block" dl
 Document_m_lines:MeT K CD "lines" "Document.lines" dA
 Document_m_pages:MeT K CD "pages" "Document.pages" dh
 Document_m_worth:MeT K CD "worth" "Document.worth" dk
 Document_m_place:MeT K CD "place" "Document.place" dg
 Document_m_places:MeT K CD "places" "Document.places" cS
 Document_m_at:MeT K CD "at" "Document.at" fj
 Document_m_count:MeT K CD "count" "Document.count" dz
 Document_m_has_block:MeT K CD "has_block" "Document.has_block" bU
 Document_m_laid_out:MeT K CD "laid_out" "Document.laid_out" ck
 Document_m_place_among:MeT K CD "place_among" "Document.place_among" bF
 Reader_a_calls:PySem.W.findIn K (.ref CE) "calls"=some none
 Reader_a_position:PySem.W.findIn K (.ref CE) "position"=some none
 Reader_m_init:MeT K CE "__init__" "Reader.__init__" ff
 Reader_m_at_end:MeT K CE "at_end" "Reader.at_end" dJ
 Reader_m_number:MeT K CE "number" "Reader.number" dN
 Reader_m_numbers:MeT K CE "numbers" "Reader.numbers" cv
 Reader_m_row:MeT K CE "row" "Reader.row" fS
structure TxN (K:PySem.W.Frag):Prop where
 done:∃ k,PySem.W.nsIn K mainGlobals "DONE"=some (some (.int 0 k))
 badForm:∃ k,PySem.W.nsIn K mainGlobals "BAD_FORM"=some (some (.int (-1) k))
 outOfRange:∃ k,PySem.W.nsIn K mainGlobals "OUT_OF_RANGE"=some (some (.int (-2) k))
 tooMany:∃ k,PySem.W.nsIn K mainGlobals "TOO_MANY"=some (some (.int (-3) k))
 mostBlocks:∃ k,PySem.W.nsIn K mainGlobals "MOST_BLOCKS"=some (some (.int 60 k))
 mostItems:∃ k,PySem.W.nsIn K mainGlobals "MOST_ITEMS"=some (some (.int 600 k))
 headSize:∃ k,PySem.W.nsIn K mainGlobals "HEAD_SIZE"=some (some (.int 4 k))
 formPlace:∃ k,PySem.W.nsIn K mainGlobals "FORM_PLACE"=some (some (.int 4 k))
 paragraph:∃ k,PySem.W.nsIn K mainGlobals "PARAGRAPH"=some (some (.int 0 k))
 display:∃ k,PySem.W.nsIn K mainGlobals "DISPLAY"=some (some (.int 1 k))
 beforePlace:∃ k,PySem.W.nsIn K mainGlobals "BEFORE_PLACE"=some (some (.int 0 k))
 beforeShrink:∃ k,PySem.W.nsIn K mainGlobals "BEFORE_SHRINK_PLACE"=some (some (.int 2 k))
 blockCost:∃ k,PySem.W.nsIn K mainGlobals "BLOCK_COST_PLACE"=some (some (.int 3 k))
 firstIndent:∃ k,PySem.W.nsIn K mainGlobals "FIRST_INDENT_PLACE"=some (some (.int 5 k))
 itemsPlace:∃ k,PySem.W.nsIn K mainGlobals "ITEMS_PLACE"=some (some (.int 6 k))
 itemSize:∃ k,PySem.W.nsIn K mainGlobals "ITEM_SIZE"=some (some (.int 7 k))
 widthPlace:∃ k,PySem.W.nsIn K mainGlobals "WIDTH_PLACE"=some (some (.int 0 k))
 heightPlace:∃ k,PySem.W.nsIn K mainGlobals "HEIGHT_PLACE"=some (some (.int 1 k))
 depthPlace:∃ k,PySem.W.nsIn K mainGlobals "DEPTH_PLACE"=some (some (.int 2 k))
 spacePlace:∃ k,PySem.W.nsIn K mainGlobals "SPACE_PLACE"=some (some (.int 3 k))
 spaceShrink:∃ k,PySem.W.nsIn K mainGlobals "SPACE_SHRINK_PLACE"=some (some (.int 5 k))
 itemCost:∃ k,PySem.W.nsIn K mainGlobals "ITEM_COST_PLACE"=some (some (.int 6 k))
 displayPlace:∃ k,PySem.W.nsIn K mainGlobals "DISPLAY_PLACE"=some (some (.int 5 k))
 displaySize:∃ k,PySem.W.nsIn K mainGlobals "DISPLAY_SIZE"=some (some (.int 4 k))
 wayPlace:∃ k,PySem.W.nsIn K mainGlobals "WAY_PLACE"=some (some (.int 5 k))
 displayWidth:∃ k,PySem.W.nsIn K mainGlobals "DISPLAY_WIDTH_PLACE"=some (some (.int 6 k))
 left:∃ k,PySem.W.nsIn K mainGlobals "LEFT"=some (some (.int 0 k))
 centred:∃ k,PySem.W.nsIn K mainGlobals "CENTRED"=some (some (.int 1 k))
 never:∃ k,PySem.W.nsIn K mainGlobals "NEVER"=some (some (.int (-1) k))
 overfullPlace:∃ k,PySem.W.nsIn K mainGlobals "OVERFULL_PLACE"=some (some (.int 0 k))
 costPlace:∃ k,PySem.W.nsIn K mainGlobals "COST_PLACE"=some (some (.int 1 k))
 countPlace:∃ k,PySem.W.nsIn K mainGlobals "COUNT_PLACE"=some (some (.int 2 k))
 endPlace:∃ k,PySem.W.nsIn K mainGlobals "END_PLACE"=some (some (.int 3 k))
 measure:∃ k,PySem.W.nsIn K mainGlobals "MEASURE"=some (some (.int 0 k))
 indent:∃ k,PySem.W.nsIn K mainGlobals "INDENT"=some (some (.int 1 k))
 lead:∃ k,PySem.W.nsIn K mainGlobals "LEAD"=some (some (.int 2 k))
 gap:∃ k,PySem.W.nsIn K mainGlobals "GAP"=some (some (.int 3 k))
 page:∃ k,PySem.W.nsIn K mainGlobals "PAGE"=some (some (.int 4 k))
 orphan:∃ k,PySem.W.nsIn K mainGlobals "ORPHAN"=some (some (.int 5 k))
 badSetting:∃ k,PySem.W.nsIn K mainGlobals "BAD_SETTING"=some (some (.int (-4) k))
 noBlock:∃ k,PySem.W.nsIn K mainGlobals "NO_BLOCK"=some (some (.int (-5) k))
 noItem:∃ k,PySem.W.nsIn K mainGlobals "NO_ITEM"=some (some (.int (-6) k))
 settingCount:∃ k,PySem.W.nsIn K mainGlobals "SETTING_COUNT"=some (some (.int 6 k))
structure TxB (K:PySem.W.Frag):Prop where
 len:PySem.W.nsIn K mainGlobals "len"=some none
 sum:PySem.W.nsIn K mainGlobals "sum"=some none
 all:PySem.W.nsIn K mainGlobals "all"=some none
 max:PySem.W.nsIn K mainGlobals "max"=some none
 min:PySem.W.nsIn K mainGlobals "min"=some none
 range:PySem.W.nsIn K mainGlobals "range"=some none
 enum:PySem.W.nsIn K mainGlobals "enumerate"=some none
 zip:PySem.W.nsIn K mainGlobals "zip"=some none
 tuple:PySem.W.nsIn K mainGlobals "tuple"=some none
 list:PySem.W.nsIn K mainGlobals "list"=some none
structure TxT (K:PySem.W.Frag):Prop where
 head:∃ (a:Addr) (od:Option Addr) (b0 b1 b2 b3:Addr) (n:Nat) (sl:Array (Option Value)),PySem.W.nsIn K mainGlobals "HEAD_RANGES"=some (some (.ref a))/\K.lookup a=some ⟨.type "tuple",od,.seq #[.ref b0,.ref b1,.ref b2,.ref b3] n,sl⟩/\PrT K b0 (0) (1000000)/\PrT K b1 (0) (1000000)/\PrT K b2 (0) (1000000)/\PrT K b3 (-1) (1000000)
 first:∃ (a:Addr) (od:Option Addr) (b0:Addr) (n:Nat) (sl:Array (Option Value)),PySem.W.nsIn K mainGlobals "FIRST_INDENT_RANGES"=some (some (.ref a))/\K.lookup a=some ⟨.type "tuple",od,.seq #[.ref b0] n,sl⟩/\PrT K b0 (0) (100000000)
 item:∃ (a:Addr) (od:Option Addr) (b0 b1 b2 b3 b4 b5 b6:Addr) (n:Nat) (sl:Array (Option Value)),PySem.W.nsIn K mainGlobals "ITEM_RANGES"=some (some (.ref a))/\K.lookup a=some ⟨.type "tuple",od,.seq #[.ref b0,.ref b1,.ref b2,.ref b3,.ref b4,.ref b5,.ref b6] n,sl⟩/\PrT K b0 (0) (1000000)/\PrT K b1 (-1000000) (1000000)/\PrT K b2 (-1000000) (1000000)/\PrT K b3 (0) (1000000)/\PrT K b4 (0) (1000000)/\PrT K b5 (0) (1000000)/\PrT K b6 (-1) (1000000)
 display:∃ (a:Addr) (od:Option Addr) (b0 b1 b2 b3:Addr) (n:Nat) (sl:Array (Option Value)),PySem.W.nsIn K mainGlobals "DISPLAY_RANGES"=some (some (.ref a))/\K.lookup a=some ⟨.type "tuple",od,.seq #[.ref b0,.ref b1,.ref b2,.ref b3] n,sl⟩/\PrT K b0 (0) (2)/\PrT K b1 (0) (1000000)/\PrT K b2 (-1000000) (1000000)/\PrT K b3 (-1000000) (1000000)
 setting:∃ (a:Addr) (od:Option Addr) (b0 b1 b2 b3 b4 b5:Addr) (n:Nat) (sl:Array (Option Value)),PySem.W.nsIn K mainGlobals "SETTING_RANGES"=some (some (.ref a))/\K.lookup a=some ⟨.type "tuple",od,.seq #[.ref b0,.ref b1,.ref b2,.ref b3,.ref b4,.ref b5] n,sl⟩/\PrT K b0 (0) (100000000)/\PrT K b1 (0) (100000000)/\PrT K b2 (0) (1000000)/\PrT K b3 (0) (1000000)/\PrT K b4 (0) (100000000)/\PrT K b5 (-1) (1000000)
 nothing:∃ (a:Addr) (od:Option Addr) (t0 t1 t2 t3:Tok) (n:Nat) (sl:Array (Option Value)),PySem.W.nsIn K mainGlobals "NOTHING_LEFT"=some (some (.ref a))/\K.lookup a=some ⟨.type "tuple",od,.seq #[.int 0 t0,.int 0 t1,.int 0 t2,.int 0 t3] n,sl⟩
 atFirst:∃ (a:Addr) (od:Option Addr) (t0 t1 t2 t3 t4 t5:Tok) (n:Nat) (sl:Array (Option Value)),PySem.W.nsIn K mainGlobals "SETTINGS_AT_FIRST"=some (some (.ref a))/\K.lookup a=some ⟨.type "tuple",od,.seq #[.int 0 t0,.int 0 t1,.int 0 t2,.int 0 t3,.int 0 t4,.int 0 t5] n,sl⟩
 calls:∃ (a:Addr) (od:Option Addr) (f0 f1 f2 f3 f4 f5 f6 f7 f8 f9 f10 f11 f12 f13:Addr) (n:Nat) (sl:Array (Option Value)),PySem.W.nsIn K mainGlobals "CALLS"=some (some (.ref a))/\K.lookup a=some ⟨.type "tuple",od,.seq #[.ref f0,.ref f1,.ref f2,.ref f3,.ref f4,.ref f5,.ref f6,.ref f7,.ref f8,.ref f9,.ref f10,.ref f11,.ref f12,.ref f13] n,sl⟩/\PySem.W.nsIn K mainGlobals "answer_settings"=some (some (.ref f0))/\PySem.W.nsIn K mainGlobals "answer_add"=some (some (.ref f1))/\PySem.W.nsIn K mainGlobals "answer_put"=some (some (.ref f2))/\PySem.W.nsIn K mainGlobals "answer_change"=some (some (.ref f3))/\PySem.W.nsIn K mainGlobals "answer_take"=some (some (.ref f4))/\PySem.W.nsIn K mainGlobals "answer_move"=some (some (.ref f5))/\PySem.W.nsIn K mainGlobals "answer_block"=some (some (.ref f6))/\PySem.W.nsIn K mainGlobals "answer_lines"=some (some (.ref f7))/\PySem.W.nsIn K mainGlobals "answer_pages"=some (some (.ref f8))/\PySem.W.nsIn K mainGlobals "answer_worth"=some (some (.ref f9))/\PySem.W.nsIn K mainGlobals "answer_place"=some (some (.ref f10))/\PySem.W.nsIn K mainGlobals "answer_places"=some (some (.ref f11))/\PySem.W.nsIn K mainGlobals "answer_at"=some (some (.ref f12))/\PySem.W.nsIn K mainGlobals "answer_count"=some (some (.ref f13))
section
variable {K:PySem.W.Frag}{h:Heap}{mg:Str->Option Value}
theorem aeJ (X:K.In h)(G:h.Ns mainGlobals mg)(t:TxN K):Nums mg:=⟨aL X G t.done,aL X G t.badForm,aL X G t.outOfRange,aL X G t.tooMany,aL X G t.mostBlocks,aL X G t.mostItems,aL X G t.headSize,aL X G t.formPlace,aL X G t.paragraph,aL X G t.display,aL X G t.beforePlace,aL X G t.beforeShrink,aL X G t.blockCost,aL X G t.firstIndent,aL X G t.itemsPlace,aL X G t.itemSize,aL X G t.widthPlace,aL X G t.heightPlace,aL X G t.depthPlace,aL X G t.spacePlace,aL X G t.spaceShrink,aL X G t.itemCost,aL X G t.displayPlace,aL X G t.displaySize,aL X G t.wayPlace,aL X G t.displayWidth,aL X G t.left,aL X G t.centred,aL X G t.never,aL X G t.overfullPlace,aL X G t.costPlace,aL X G t.countPlace,aL X G t.endPlace,aL X G t.measure,aL X G t.indent,aL X G t.lead,aL X G t.gap,aL X G t.page,aL X G t.orphan,aL X G t.badSetting,aL X G t.noBlock,aL X G t.noItem,aL X G t.settingCount⟩
theorem ad5 (X:K.In h)(G:h.Ns mainGlobals mg)(t:TxB K):Blt mg:=⟨PySem.W.mg_none_of X G t.len,PySem.W.mg_none_of X G t.sum,PySem.W.mg_none_of X G t.all,PySem.W.mg_none_of X G t.max,PySem.W.mg_none_of X G t.min,PySem.W.mg_none_of X G t.range,PySem.W.mg_none_of X G t.enum,PySem.W.mg_none_of X G t.zip,PySem.W.mg_none_of X G t.tuple,PySem.W.mg_none_of X G t.list⟩
theorem aeF (X:K.In h)(G:h.Ns mainGlobals mg)(t:TxT K):Tups K mg:=by
 have h_head:nY K mg "HEAD_RANGES" Bp.eT:=by
  obtain ⟨a,od,b0,b1,b2,b3,n,sl,e1,e2,p0,p1,p2,p3⟩:=t.head
  exact ⟨a,PySem.W.mg_of X G e1,fun H=>⟨a,[.ref b0,.ref b1,.ref b2,.ref b3],rfl,.inr ⟨_,_,n,e2,rfl,rfl,(by show 4<=sizeLine;decide),.cons rfl (.cons rfl (.cons rfl (.cons rfl .nil)))⟩,.cons (dD p0 H) (.cons (dD p1 H) (.cons (dD p2 H) (.cons (dD p3 H) (.nil))))⟩⟩
 have h_first:nY K mg "FIRST_INDENT_RANGES" Bp.bq:=by
  obtain ⟨a,od,b0,n,sl,e1,e2,p0⟩:=t.first
  exact ⟨a,PySem.W.mg_of X G e1,fun H=>⟨a,[.ref b0],rfl,.inr ⟨_,_,n,e2,rfl,rfl,(by show 1<=sizeLine;decide),.cons rfl .nil⟩,.cons (dD p0 H) (.nil)⟩⟩
 have h_item:nY K mg "ITEM_RANGES" Bp.eK:=by
  obtain ⟨a,od,b0,b1,b2,b3,b4,b5,b6,n,sl,e1,e2,p0,p1,p2,p3,p4,p5,p6⟩:=t.item
  exact ⟨a,PySem.W.mg_of X G e1,fun H=>⟨a,[.ref b0,.ref b1,.ref b2,.ref b3,.ref b4,.ref b5,.ref b6],rfl,.inr ⟨_,_,n,e2,rfl,rfl,(by show 7<=sizeLine;decide),.cons rfl (.cons rfl (.cons rfl (.cons rfl (.cons rfl (.cons rfl (.cons rfl .nil))))))⟩,.cons (dD p0 H) (.cons (dD p1 H) (.cons (dD p2 H) (.cons (dD p3 H) (.cons (dD p4 H) (.cons (dD p5 H) (.cons (dD p6 H) (.nil)))))))⟩⟩
 have h_display:nY K mg "DISPLAY_RANGES" Bp.cP:=by
  obtain ⟨a,od,b0,b1,b2,b3,n,sl,e1,e2,p0,p1,p2,p3⟩:=t.display
  exact ⟨a,PySem.W.mg_of X G e1,fun H=>⟨a,[.ref b0,.ref b1,.ref b2,.ref b3],rfl,.inr ⟨_,_,n,e2,rfl,rfl,(by show 4<=sizeLine;decide),.cons rfl (.cons rfl (.cons rfl (.cons rfl .nil)))⟩,.cons (dD p0 H) (.cons (dD p1 H) (.cons (dD p2 H) (.cons (dD p3 H) (.nil))))⟩⟩
 have h_setting:nY K mg "SETTING_RANGES" Bp.fh:=by
  obtain ⟨a,od,b0,b1,b2,b3,b4,b5,n,sl,e1,e2,p0,p1,p2,p3,p4,p5⟩:=t.setting
  exact ⟨a,PySem.W.mg_of X G e1,fun H=>⟨a,[.ref b0,.ref b1,.ref b2,.ref b3,.ref b4,.ref b5],rfl,.inr ⟨_,_,n,e2,rfl,rfl,(by show 6<=sizeLine;decide),.cons rfl (.cons rfl (.cons rfl (.cons rfl (.cons rfl (.cons rfl .nil)))))⟩,.cons (dD p0 H) (.cons (dD p1 H) (.cons (dD p2 H) (.cons (dD p3 H) (.cons (dD p4 H) (.cons (dD p5 H) (.nil))))))⟩⟩
 have h_nothing:∃ a,mg "NOTHING_LEFT"=some (.ref a)/\∀ H,cT cI K [0,0,0,0] (.ref a) H:=by
  obtain ⟨a,od,t0,t1,t2,t3,n,sl,e1,e2⟩:=t.nothing
  exact ⟨a,PySem.W.mg_of X G e1,fun H=>⟨a,[.int 0,.int 0,.int 0,.int 0],rfl,.inr ⟨_,_,n,e2,rfl,rfl,(by show 4<=sizeLine;decide),.cons ⟨t0,rfl⟩ (.cons ⟨t1,rfl⟩ (.cons ⟨t2,rfl⟩ (.cons ⟨t3,rfl⟩ (.nil))))⟩,All.of_ints [0,0,0,0]⟩⟩
 have h_atFirst:∃ a,mg "SETTINGS_AT_FIRST"=some (.ref a)/\∀ H,cT cI K [0,0,0,0,0,0] (.ref a) H:=by
  obtain ⟨a,od,t0,t1,t2,t3,t4,t5,n,sl,e1,e2⟩:=t.atFirst
  exact ⟨a,PySem.W.mg_of X G e1,fun H=>⟨a,[.int 0,.int 0,.int 0,.int 0,.int 0,.int 0],rfl,.inr ⟨_,_,n,e2,rfl,rfl,(by show 6<=sizeLine;decide),.cons ⟨t0,rfl⟩ (.cons ⟨t1,rfl⟩ (.cons ⟨t2,rfl⟩ (.cons ⟨t3,rfl⟩ (.cons ⟨t4,rfl⟩ (.cons ⟨t5,rfl⟩ (.nil))))))⟩,All.of_ints [0,0,0,0,0,0]⟩⟩
 exact ⟨h_head,h_first,h_item,h_display,h_setting,h_nothing,h_atFirst⟩
theorem abH (X:K.In h)(G:h.Ns mainGlobals mg)(t:TxT K):yF K mg:=by
 obtain ⟨a,od,f0,f1,f2,f3,f4,f5,f6,f7,f8,f9,f10,f11,f12,f13,n,sl,e1,e2,g0,g1,g2,g3,g4,g5,g6,g7,g8,g9,g10,g11,g12,g13⟩:=t.calls
 refine ⟨a,[f0,f1,f2,f3,f4,f5,f6,f7,f8,f9,f10,f11,f12,f13],PySem.W.mg_of X G e1,fun H=>.inr ⟨_,_,n,e2,rfl,rfl,(by show 14<=sizeLine;decide),.cons rfl (.cons rfl (.cons rfl (.cons rfl (.cons rfl (.cons rfl (.cons rfl (.cons rfl (.cons rfl (.cons rfl (.cons rfl (.cons rfl (.cons rfl (.cons rfl (.nil))))))))))))))⟩,fun i nm hn=>?_⟩
 match i,hn with
 | 0,hn=>
  have e:=Option.some.inj hn
  subst e
  exact ⟨f0,rfl,PySem.W.mg_of X G g0⟩
 | 1,hn=>
  have e:=Option.some.inj hn
  subst e
  exact ⟨f1,rfl,PySem.W.mg_of X G g1⟩
 | 2,hn=>
  have e:=Option.some.inj hn
  subst e
  exact ⟨f2,rfl,PySem.W.mg_of X G g2⟩
 | 3,hn=>
  have e:=Option.some.inj hn
  subst e
  exact ⟨f3,rfl,PySem.W.mg_of X G g3⟩
 | 4,hn=>
  have e:=Option.some.inj hn
  subst e
  exact ⟨f4,rfl,PySem.W.mg_of X G g4⟩
 | 5,hn=>
  have e:=Option.some.inj hn
  subst e
  exact ⟨f5,rfl,PySem.W.mg_of X G g5⟩
 | 6,hn=>
  have e:=Option.some.inj hn
  subst e
  exact ⟨f6,rfl,PySem.W.mg_of X G g6⟩
 | 7,hn=>
  have e:=Option.some.inj hn
  subst e
  exact ⟨f7,rfl,PySem.W.mg_of X G g7⟩
 | 8,hn=>
  have e:=Option.some.inj hn
  subst e
  exact ⟨f8,rfl,PySem.W.mg_of X G g8⟩
 | 9,hn=>
  have e:=Option.some.inj hn
  subst e
  exact ⟨f9,rfl,PySem.W.mg_of X G g9⟩
 | 10,hn=>
  have e:=Option.some.inj hn
  subst e
  exact ⟨f10,rfl,PySem.W.mg_of X G g10⟩
 | 11,hn=>
  have e:=Option.some.inj hn
  subst e
  exact ⟨f11,rfl,PySem.W.mg_of X G g11⟩
 | 12,hn=>
  have e:=Option.some.inj hn
  subst e
  exact ⟨f12,rfl,PySem.W.mg_of X G g12⟩
 | 13,hn=>
  have e:=Option.some.inj hn
  subst e
  exact ⟨f13,rfl,PySem.W.mg_of X G g13⟩
 | i+14,hn=>exact nomatch hn
end
section
variable {P:Program}{w:World}{K:PySem.W.Frag}{h:Heap}{mg:Str->Option Value}{CR CS CP CB CT CL CD CE:Addr}
structure Dif (CR CS CP CB CT CL CD CE:Addr):Prop where
 cb_cl:CB≠CL
 cr_cl:CR≠CL
 cs_cl:CS≠CL
 ct_cl:CT≠CL
 cb_cd:CB≠CD
 cr_cd:CR≠CD
 cs_cd:CS≠CD
 ct_cd:CT≠CD
 cl_cd:CL≠CD
 cb_ce:CB≠CE
 cr_ce:CR≠CE
 cs_ce:CS≠CE
 ct_ce:CT≠CE
 cl_ce:CL≠CE
 cd_ce:CD≠CE
theorem aey (X:K.In h)(G:h.Ns mainGlobals mg)(tf:TxF K)(tc:TxC K CR CS CP CB CT CL CD CE)(tn:TxN K)(tb:TxB K)(tt:TxT K)(df:Dif CR CS CP CB CT CL CD CE)(base:Heap){fn:Addr}{fd:FuncData}(FA:Fun K "answers" "answers" fU fn fd):eI P w K mg base CX0 14 fn fd ["calls"] (ya K):=by
 have N:=aeJ X G tn
 have B:=ad5 X G tb
 have T:=aeF X G tt
 have CAL:=abH X G tt
 have c_RowItem:acU K CR:=⟨gB tc.RowItem,tc.RowItem_a_width,tc.RowItem_a_space,tc.RowItem_a_shrink,tc.RowItem_a_cost⟩
 have c_Span:qg K CS:=⟨gB tc.Span,tc.Span_a_first,tc.Span_a_last,tc.Span_a_slack,tc.Span_a_overfull,tc.Span_a_cost⟩
 have c_Pieces:oi K CP:=⟨gB tc.Pieces,tc.Pieces_a_first,tc.Pieces_a_last,tc.Pieces_a_costs,tc.Pieces_a_lefts,tc.Pieces_a_rights,tc.Pieces_a_tlefts,tc.Pieces_a_trights⟩
 have c_BlockLine:lB K CB:=⟨gB tc.BlockLine,tc.BlockLine_a_owner,tc.BlockLine_a_first,tc.BlockLine_a_last,tc.BlockLine_a_height,tc.BlockLine_a_depth,tc.BlockLine_a_overfull,tc.BlockLine_a_opens,tc.BlockLine_a_closes⟩
 have c_Spot:qv K CT:=⟨gB tc.Spot,tc.Spot_a_page,tc.Spot_a_x,tc.Spot_a_y⟩
 have c_Layout:kn K CL:=⟨gB tc.Layout,tc.Layout_a_blocks,tc.Layout_a_lines,tc.Layout_a_pages,tc.Layout_a_spots⟩
 have c_Document:gS K CD:=⟨gB tc.Document,tc.Document_a_settings,tc.Document_a_blocks,tc.Document_a_layout⟩
 have c_Reader:CRd K CE:=⟨gB tc.Reader,tc.Reader_a_calls,tc.Reader_a_position⟩
 have apL:Apart ⟨CL,CB,CR,CS,CT⟩ CL:=⟨df.cb_cl,df.cr_cl,df.cs_cl,df.ct_cl⟩
 have apD:ApD ⟨CL,CB,CR,CS,CT⟩ CD:=⟨⟨df.cb_cd,df.cr_cd,df.cs_cd,df.ct_cd⟩,df.cl_cd⟩
 have apE:ApD ⟨CL,CB,CR,CS,CT⟩ CE:=⟨⟨df.cb_ce,df.cr_ce,df.cs_ce,df.ct_ce⟩,df.cl_ce⟩
 have g_all_within:=qX (P:=P) (w:=w) (mg:=mg) (base:=base) (au X G tf.all_within tR) B true
 have g_is_paragraph:=n8 (P:=P) (w:=w) (mg:=mg) (base:=base) (au X G tf.is_paragraph qm) N
 have g_item_count:=qY (P:=P) (w:=w) (mg:=mg) (base:=base) (au X G tf.item_count uF) N B g_is_paragraph
 have g_item_total:=rT (P:=P) (w:=w) (mg:=mg) (base:=base) (au X G tf.item_total uq) B g_item_count
 have g_items_between:=mJ (P:=P) (w:=w) (mg:=mg) (base:=base) (au X G tf.items_between fz) N B
 have g_items_betweenL:=kI (P:=P) (w:=w) (mg:=mg) (base:=base) (au X G tf.items_between fz) N B
 have g_items_of:=vB (P:=P) (w:=w) (mg:=mg) (base:=base) (au X G tf.items_of qK) g_items_between g_item_count
 have g_items_ofL:=tL (P:=P) (w:=w) (mg:=mg) (base:=base) (au X G tf.items_of qK) g_items_betweenL g_item_count
 have g_has_form:=vc (P:=P) (w:=w) (mg:=mg) (base:=base) (au X G tf.has_form xi) N B
 have g_head_in_range:=lN (P:=P) (w:=w) (mg:=mg) (base:=base) (au X G tf.head_in_range nP) N T g_all_within
 have g_item_in_range:=ml (P:=P) (w:=w) (mg:=mg) (base:=base) (au X G tf.item_in_range nG) N T g_all_within
 have g_paragraph_in_range:=iY (P:=P) (w:=w) (mg:=mg) (base:=base) (au X G tf.paragraph_in_range ju) N B T g_all_within g_item_in_range g_items_ofL
 have g_block_in_range:=kP (P:=P) (w:=w) (mg:=mg) (base:=base) (au X G tf.block_in_range lL) N T g_is_paragraph g_all_within g_head_in_range g_paragraph_in_range
 have g_block_refusal:=my (P:=P) (w:=w) (mg:=mg) (base:=base) (au X G tf.block_refusal nV) N B g_has_form g_block_in_range g_item_total g_item_count
 have g_RowItem:=xQ (P:=P) (w:=w) (mg:=mg) (base:=base) (fu X G tc.RowItem tc.RowItem_m_init pf) c_RowItem
 have g_Span:=act (P:=P) (w:=w) (mg:=mg) (base:=base) (fu X G tc.Span tc.Span_m_init u5) c_Span
 have g_gather:=zO (P:=P) (w:=w) (mg:=mg) (base:=base) (aG tc.Pieces_m_gather nE) c_Pieces c_RowItem N B
 have g_Pieces:=zk (P:=P) (w:=w) (mg:=mg) (base:=base) (fu X G tc.Pieces tc.Pieces_m_init rV) c_Pieces g_gather
 have g_last_piece:=rB (P:=P) (w:=w) (mg:=mg) (base:=base) (aG tc.Pieces_m_last_piece jL) c_Pieces B
 have g_slack_of:=u4 (P:=P) (w:=w) (mg:=mg) (base:=base) (aG tc.Pieces_m_slack_of kS) c_Pieces
 have g_overfull_of:=qH (P:=P) (w:=w) (mg:=mg) (base:=base) (aG tc.Pieces_m_overfull_of i8) c_Pieces B
 have g_cost_of:=xB (P:=P) (w:=w) (mg:=mg) (base:=base) (aG tc.Pieces_m_cost_of lT) c_Pieces g_last_piece
 have g_span:=acv (P:=P) (w:=w) (mg:=mg) (base:=base) (aG tc.Pieces_m_span rg) c_Pieces g_slack_of g_overfull_of g_cost_of g_Span
 have g_way_with:=wg (P:=P) (w:=w) (mg:=mg) (base:=base) (au X G tf.way_with xr) c_Pieces N g_slack_of g_overfull_of g_cost_of
 have g_best_way:=wv (P:=P) (w:=w) (mg:=mg) (base:=base) (au X G tf.best_way xR) c_Pieces N B g_slack_of g_overfull_of g_way_with
 have g_best_ways:=uc (P:=P) (w:=w) (mg:=mg) (base:=base) (au X G tf.best_ways wz) c_Pieces N B T g_last_piece g_best_way
 have g_best_breaking:=mV (P:=P) (w:=w) (mg:=mg) (base:=base) (au X G tf.best_breaking n0) c_Pieces N B g_Pieces g_last_piece g_best_ways g_span
 have g_sizes_of:=wx (P:=P) (w:=w) (mg:=mg) (base:=base) (au X G tf.sizes_of qh) N g_is_paragraph g_items_of
 have g_paragraph_row:=mK (P:=P) (w:=w) (mg:=mg) (base:=base) (au X G tf.paragraph_row nZ) N g_RowItem g_items_of
 have g_block_spans:=oU (P:=P) (w:=w) (mg:=mg) (base:=base) (au X G tf.block_spans rG) N g_is_paragraph g_RowItem g_paragraph_row g_best_breaking
 have g_BlockLine:=uC (P:=P) (w:=w) (mg:=mg) (base:=base) (fu X G tc.BlockLine tc.BlockLine_m_init mR) c_BlockLine c_Span N B
 have g_block_lines:=qL (P:=P) (w:=w) (mg:=mg) (base:=base) (au X G tf.block_lines rH) B g_sizes_of g_block_spans g_BlockLine
 have g_extent:=zW (P:=P) (w:=w) (mg:=mg) (base:=base) (au X G tf.extent abT) c_BlockLine B
 have g_column_item:=pk (P:=P) (w:=w) (mg:=mg) (base:=base) (au X G tf.column_item rp) c_BlockLine N B g_extent g_RowItem
 have g_column_row:=rR (P:=P) (w:=w) (mg:=mg) (base:=base) (au X G tf.column_row uy) B g_extent g_RowItem g_column_item
 have g_Spot:=adc (P:=P) (w:=w) (mg:=mg) (base:=base) (fu X G tc.Spot tc.Spot_m_init wj) c_Spot
 have g_told:=adl (P:=P) (w:=w) (mg:=mg) (base:=base) (aG tc.Spot_m_told wm) c_Spot
 have g_baselines:=sU (P:=P) (w:=w) (mg:=mg) (base:=base) (au X G tf.baselines wn) B c_BlockLine c_RowItem c_Span
 have g_display_x:=ud (P:=P) (w:=w) (mg:=mg) (base:=base) (au X G tf.display_x uW) N
 have g_items_betweenF:=lC (P:=P) (w:=w) (mg:=mg) (base:=base) (au X G tf.items_between fz) N B
 have g_item_xs:=wL (P:=P) (w:=w) (mg:=mg) (base:=base) (au X G tf.item_xs zD) N c_BlockLine g_is_paragraph g_display_x g_items_betweenF
 have g_covers:=zM (P:=P) (w:=w) (mg:=mg) (base:=base) (au X G tf.covers aa2) N c_Spot
 have g_item_spots:=rA (P:=P) (w:=w) (mg:=mg) (base:=base) (au X G tf.item_spots uD) B c_BlockLine c_Span g_baselines g_item_xs g_Spot
 have g_Layout:=yU (P:=P) (w:=w) (mg:=mg) (base:=base) (kk:=⟨CL,CB,CR,CS,CT⟩) (fu X G tc.Layout tc.Layout_m_init rK) c_Layout apL N g_block_lines g_column_row g_best_breaking g_item_spots
 have g_told_lines:=rL (P:=P) (w:=w) (mg:=mg) (base:=base) (kk:=⟨CL,CB,CR,CS,CT⟩) (aG tc.Layout_m_told_lines jP) c_Layout c_BlockLine
 have g_told_pages:=rE (P:=P) (w:=w) (mg:=mg) (base:=base) (kk:=⟨CL,CB,CR,CS,CT⟩) (aG tc.Layout_m_told_pages jO) c_Layout c_Span
 have g_told_worth:=qW (P:=P) (w:=w) (mg:=mg) (base:=base) (kk:=⟨CL,CB,CR,CS,CT⟩) (aG tc.Layout_m_told_worth jH) c_Layout c_BlockLine c_Span B
 have g_has_item:=ve (P:=P) (w:=w) (mg:=mg) (base:=base) (kk:=⟨CL,CB,CR,CS,CT⟩) (aG tc.Layout_m_has_item lf) c_Layout B
 have g_told_place:=qZ (P:=P) (w:=w) (mg:=mg) (base:=base) (kk:=⟨CL,CB,CR,CS,CT⟩) (aG tc.Layout_m_told_place jM) c_Layout c_Spot g_told
 have g_told_places:=oY (P:=P) (w:=w) (mg:=mg) (base:=base) (kk:=⟨CL,CB,CR,CS,CT⟩) (aG tc.Layout_m_told_places jj) c_Layout c_Spot g_told
 have g_sizes_ofF:=sY (P:=P) (w:=w) (mg:=mg) (base:=base) (au X G tf.sizes_of qh) N g_is_paragraph g_items_of
 have g_told_at:=wW (P:=P) (w:=w) (mg:=mg) (base:=base) (kk:=⟨CL,CB,CR,CS,CT⟩) (aG tc.Layout_m_told_at lW) c_Layout c_Spot B g_sizes_ofF g_covers
 have g_has_block:=t7 (P:=P) (w:=w) (mg:=mg) (base:=base) (kk:=⟨CL,CB,CR,CS,CT⟩) (aG tc.Document_m_has_block jt) c_Document B
 have g_count:=aau (P:=P) (w:=w) (mg:=mg) (base:=base) (kk:=⟨CL,CB,CR,CS,CT⟩) (aG tc.Document_m_count mm) c_Document N B g_item_total
 have g_block:=aan (P:=P) (w:=w) (mg:=mg) (base:=base) (kk:=⟨CL,CB,CR,CS,CT⟩) (aG tc.Document_m_block mf) c_Document N B g_has_block
 have g_hold:=ace (P:=P) (w:=w) (mg:=mg) (base:=base) (aG tc.Document_m_hold nM) c_Document
 have g_without:=xw (P:=P) (w:=w) (mg:=mg) (base:=base) (au X G tf.without zI)
 have g_with_block:=rj (P:=P) (w:=w) (mg:=mg) (base:=base) (au X G tf.with_block uN)
 have g_settle:=zU (P:=P) (w:=w) (mg:=mg) (base:=base) (kk:=⟨CL,CB,CR,CS,CT⟩) (aG tc.Document_m_settle kW) c_Document N B T g_all_within g_hold
 have g_place_among:=qi (P:=P) (w:=w) (mg:=mg) (base:=base) (kk:=⟨CL,CB,CR,CS,CT⟩) (aG tc.Document_m_place_among iJ) c_Document N B g_block_refusal g_hold g_with_block
 have g_add:=aer (P:=P) (w:=w) (mg:=mg) (base:=base) (kk:=⟨CL,CB,CR,CS,CT⟩) (aG tc.Document_m_add pR) c_Document B g_place_among
 have g_put:=adO (P:=P) (w:=w) (mg:=mg) (base:=base) (kk:=⟨CL,CB,CR,CS,CT⟩) (aG tc.Document_m_put pX) c_Document N B g_place_among
 have g_change:=z7 (P:=P) (w:=w) (mg:=mg) (base:=base) (kk:=⟨CL,CB,CR,CS,CT⟩) (aG tc.Document_m_change ld) c_Document N g_has_block g_place_among g_without
 have g_take:=adh (P:=P) (w:=w) (mg:=mg) (base:=base) (kk:=⟨CL,CB,CR,CS,CT⟩) (aG tc.Document_m_take ou) c_Document N g_has_block g_hold g_without
 have g_move:=acw (P:=P) (w:=w) (mg:=mg) (base:=base) (kk:=⟨CL,CB,CR,CS,CT⟩) (aG tc.Document_m_move nW) c_Document N g_has_block g_hold g_without g_with_block
 have g_laid_out:=vP (P:=P) (w:=w) (mg:=mg) (base:=base) (kk:=⟨CL,CB,CR,CS,CT⟩) (aG tc.Document_m_laid_out jK) c_Document apD g_Layout
 have g_lines:=abA (P:=P) (w:=w) (mg:=mg) (base:=base) (kk:=⟨CL,CB,CR,CS,CT⟩) (aG tc.Document_m_lines mX) c_Document c_Layout N g_laid_out g_told_lines
 have g_pages:=aaJ (P:=P) (w:=w) (mg:=mg) (base:=base) (kk:=⟨CL,CB,CR,CS,CT⟩) (aG tc.Document_m_pages mH) c_Document c_Layout N g_laid_out g_told_pages
 have g_worth:=aaz (P:=P) (w:=w) (mg:=mg) (base:=base) (kk:=⟨CL,CB,CR,CS,CT⟩) (aG tc.Document_m_worth l0) c_Document c_Layout N g_laid_out g_told_worth
 have g_at:=ae8 (P:=P) (w:=w) (mg:=mg) (base:=base) (kk:=⟨CL,CB,CR,CS,CT⟩) (aG tc.Document_m_at rN) c_Document c_Layout N g_laid_out g_told_at
 have g_places:=y6 (P:=P) (w:=w) (mg:=mg) (base:=base) (kk:=⟨CL,CB,CR,CS,CT⟩) (aG tc.Document_m_places kZ) c_Document c_Layout N g_has_block g_laid_out g_told_places
 have g_place:=aaE (P:=P) (w:=w) (mg:=mg) (base:=base) (kk:=⟨CL,CB,CR,CS,CT⟩) (aG tc.Document_m_place mz) c_Document c_Layout N g_has_block g_laid_out g_has_item g_told_place
 have g_Document:=wE (P:=P) (w:=w) (mg:=mg) (base:=base) (kk:=⟨CL,CB,CR,CS,CT⟩) (fu X G tc.Document tc.Document_m_init nO) c_Document T g_hold
 have g_Reader:=zS (P:=P) (w:=w) (mg:=mg) (base:=base) (fu X G tc.Reader tc.Reader_m_init rC) c_Reader
 have g_at_end:=z0 (P:=P) (w:=w) (mg:=mg) (base:=base) (aG tc.Reader_m_at_end nJ) c_Reader B
 have g_number:=y3 (P:=P) (w:=w) (mg:=mg) (base:=base) (aG tc.Reader_m_number oq) c_Reader
 have g_numbers:=wV (P:=P) (w:=w) (mg:=mg) (base:=base) (aG tc.Reader_m_numbers md) c_Reader
 have g_row:=ad2 (P:=P) (w:=w) (mg:=mg) (base:=base) (aG tc.Reader_m_row tO) c_Reader g_number g_numbers
 have RR:Rds P w K mg base ⟨CL,CB,CR,CS,CT⟩ CD CE:=⟨c_Document,c_Reader,df.cd_ce,apE,g_number,g_numbers,g_row⟩
 have g_answer_take:=qr (P:=P) (w:=w) (mg:=mg) (base:=base) (kk:=⟨CL,CB,CR,CS,CT⟩) RR (au X G tf.answer_take rO) g_take
 have g_answer_block:=ow (P:=P) (w:=w) (mg:=mg) (base:=base) (kk:=⟨CL,CB,CR,CS,CT⟩) RR (au X G tf.answer_block oX) (aa0 g_block)
 have g_answer_places:=lY (P:=P) (w:=w) (mg:=mg) (base:=base) (kk:=⟨CL,CB,CR,CS,CT⟩) RR (au X G tf.answer_places oa) g_places
 have g_answer_move:=qN (P:=P) (w:=w) (mg:=mg) (base:=base) (kk:=⟨CL,CB,CR,CS,CT⟩) RR (au X G tf.answer_move rD) g_move
 have g_answer_place:=oj (P:=P) (w:=w) (mg:=mg) (base:=base) (kk:=⟨CL,CB,CR,CS,CT⟩) RR (au X G tf.answer_place qQ) g_place
 have g_answer_put:=rc (P:=P) (w:=w) (mg:=mg) (base:=base) (kk:=⟨CL,CB,CR,CS,CT⟩) RR (au X G tf.answer_put sV) g_put
 have g_answer_change:=lV (P:=P) (w:=w) (mg:=mg) (base:=base) (kk:=⟨CL,CB,CR,CS,CT⟩) RR (au X G tf.answer_change nB) g_change
 have g_answer_lines:=og (P:=P) (w:=w) (mg:=mg) (base:=base) (kk:=⟨CL,CB,CR,CS,CT⟩) RR (au X G tf.answer_lines oQ) g_lines
 have g_answer_pages:=om (P:=P) (w:=w) (mg:=mg) (base:=base) (kk:=⟨CL,CB,CR,CS,CT⟩) RR (au X G tf.answer_pages pS) g_pages
 have g_answer_worth:=nX (P:=P) (w:=w) (mg:=mg) (base:=base) (kk:=⟨CL,CB,CR,CS,CT⟩) RR (au X G tf.answer_worth qD) g_worth
 have g_answer_count:=oh (P:=P) (w:=w) (mg:=mg) (base:=base) (kk:=⟨CL,CB,CR,CS,CT⟩) RR (au X G tf.answer_count oV) (aa0 g_count)
 have g_answer_add:=rJ (P:=P) (w:=w) (mg:=mg) (base:=base) (kk:=⟨CL,CB,CR,CS,CT⟩) RR (au X G tf.answer_add tE) g_add
 have g_answer_settings:=j9 (P:=P) (w:=w) (mg:=mg) (base:=base) (kk:=⟨CL,CB,CR,CS,CT⟩) RR (au X G tf.answer_settings ln) g_settle N
 have g_answer_at:=ug (P:=P) (w:=w) (mg:=mg) (base:=base) (kk:=⟨CL,CB,CR,CS,CT⟩) RR (au X G tf.answer_at vG) g_at
 refine xK FA RR B CAL g_Reader g_Document g_at_end fun i nm hn=>?_
 match i,hn with
 | 0,hn=>
  have e:=Option.some.inj hn
  subst e
  exact g_answer_settings
 | 1,hn=>
  have e:=Option.some.inj hn
  subst e
  exact g_answer_add
 | 2,hn=>
  have e:=Option.some.inj hn
  subst e
  exact g_answer_put
 | 3,hn=>
  have e:=Option.some.inj hn
  subst e
  exact g_answer_change
 | 4,hn=>
  have e:=Option.some.inj hn
  subst e
  exact g_answer_take
 | 5,hn=>
  have e:=Option.some.inj hn
  subst e
  exact g_answer_move
 | 6,hn=>
  have e:=Option.some.inj hn
  subst e
  exact g_answer_block
 | 7,hn=>
  have e:=Option.some.inj hn
  subst e
  exact g_answer_lines
 | 8,hn=>
  have e:=Option.some.inj hn
  subst e
  exact g_answer_pages
 | 9,hn=>
  have e:=Option.some.inj hn
  subst e
  exact g_answer_worth
 | 10,hn=>
  have e:=Option.some.inj hn
  subst e
  exact g_answer_place
 | 11,hn=>
  have e:=Option.some.inj hn
  subst e
  exact g_answer_places
 | 12,hn=>
  have e:=Option.some.inj hn
  subst e
  exact g_answer_at
 | 13,hn=>
  have e:=Option.some.inj hn
  subst e
  exact g_answer_count
 | i+14,hn=>exact nomatch hn
theorem aeo {fa:Addr}(X:K.In h)(G:h.Ns mainGlobals mg)(hfa:mg "answers"=some (.ref fa))(tf:TxF K)(tc:TxC K CR CS CP CB CT CL CD CE)(tn:TxN K)(tb:TxB K)(tt:TxT K)(df:Dif CR CS CP CB CT CL CD CE):
  ∃ fd:FuncData,(∀ (s:Shared) (us:List Value),us.length=(["calls"]:List Str).length->BindsTo s fd ⟨us,[]⟩ ((["calls"]:List Str).zip us))/\∀ base:Heap,K.In base->base.Ns mainGlobals mg->eI P w K mg base CX0 14 fa fd ["calls"] (ya K):=by
 obtain ⟨f,a,oc,od,an,osl,kV,doc,pm,cdv,ct,l,c,k⟩:=tf.answers
 have e:=hfa.symm.trans (PySem.W.mg_of X G a)
 injection e with e
 injection e with e
 subst e
 exact ⟨_,fun s us hu=>.of_eq (zm kV doc pm an cdv ct us hu),fun base _ _=>aey X G tf tc tn tb tt df base (tG (st:=fU) l c k)⟩
end
end Bq
namespace PySem.W.Fast
def tw4024345311641767016:=0
def tw9419417294916486363:=0
def tw14917103597927246457:=0
def tw16147177821046920317:=0
def tw1699796526655578577:=0
def tw3022854163681228714:=0
def tw16233073210802189712:=0
def tw12766120531770073505:=0
def tw8122680675578007275:=0
def tw13216063697522361179:=0
def tw12356033034030457277:=0
def tw4459735664457581317:=0
def tw4617748930499120596:=0
def tw6430784082369959396:=0
def tw787058374290874885:=0
def tw8224922428367826810:=0
def tw5940372680626712345:=0
def tw13793346063044478657:=0
def tw15300023138036307609:=0
def tw11422138407173157231:=0
def tw2186269245460066954:=0
def tw14577021568419778047:=0
def tw17341201098130015445:=0
def tw410853637106170683:=0
def tw10141566556428998875:=0
def tw10020741674311218356:=0
def tw11453028304995253588:=0
def tw8585175139187729210:=0
def tw11842446523330895741:=0
def tw10334119532499069813:=0
def tw7518754769842106442:=0
def tw15451343992167670694:=0
def tw12441890525874916932:=0
def tw7803585174273856287:=0
def tw17150311476044758786:=0
def tw6458612795656230636:=0
def tw4618384881146522047:=0
def tw14767257301195124454:=0
def tw17353269208061045842:=0
def tw1356680875826394167:=0
def tw79851502212125528:=0
def tw8182231970739589827:=0
def tw2568067721478570360:=0
def tw11968682385080806443:=0
def tw3735462763369866227:=0
def tw549438692806712006:=0
def tw1490328521704216965:=0
def tw4747219243176415389:=0
def tw15726083052340096176:=0
def tw4799290696754156470:=0
def tw10519724022844714592:=0
def tw18249762868203868490:=0
def tw16037919926894456861:=0
def tw2073595117312642742:=0
def tw5960089419462607587:=0
def tw10601804318268129148:=0
def tw4961306070537195268:=0
def tw4151795518658463410:=0
def tw4772784819613403988:=0
def tw4310518010876880349:=0
def tw13854124751916451115:=0
def tw17528757723792093999:=0
def tw15554356840667212690:=0
def tw12534143660552139884:=0
def tw4076559301677953640:=0
def tw1551404284643460522:=0
def tw113128013592153050:=0
def tw2837964533627952428:=0
def tw3544447372425334960:=0
def tw17174432227117165655:=0
def tw18413451646152503812:=0
def tw6995561382658876103:=0
def tw12505457843634720390:=0
def tw7775077477880452365:=0
def tw2812655573389300677:=0
def tw11826378141833812726:=0
def tw17708929207590582337:=0
def tw15632684390393263561:=0
def tw1023480684092691366:=0
def tw14611257383408369339:=0
def tw9121410256568801872:=0
def tw1217929689429491151:=0
def tw7354137107944921788:=0
def tw14936741226982751265:=0
def tw10820715306975906023:=0
def tw12064007977469090094:=0
def tw2731573851161480981:=0
def tw278810718827620964:=0
def tw15326196970781432023:=0
def tw3012790627538179060:=0
def tw8051565400090969569:=0
def tw4903095690368707365:=0
def tw7209967825197351737:=0
def tw16856120987806241933:=0
def tw1848324961059123262:=0
def tw6177584119847729674:=0
def tw14650238309680104275:=0
def tw10081103739149973697:=0
def tw7117810342200367115:=0
def tw2568612293828689962:=0
def tw12503186832016163762:=0
def tw8888119785563898325:=0
def tw7646652281568709943:=0
def tw6073176502418384252:=0
def tw7244405355052321240:=0
def tw2225025660275221111:=0
def tw6920529841730527823:=0
def tw9478659844257252361:=0
def tw17006912032344128356:=0
def tw1171255262903854035:=0
def tw8153499034152898387:=0
def tw11066072817194450546:=0
def tw3556636965523993916:=0
def tw14258659478039968314:=0
def tw1071502359755423160:=0
def tw11803528250166590528:=0
def tw6079752008604944318:=0
def tw774353044642109312:=0
def tw2680298305186386892:=0
def tw15503432804079810802:=0
def tw7078084060268287248:=0
def tw15152417783747528707:=0
def tw986629983183252763:=0
def tw10487307294494238740:=0
def tw1293062302112641119:=0
def tw17234739400452474811:=0
def tw9905544655743697900:=0
def tw17627662189364992951:=0
def tw2697830090415044219:=0
def tw4065148506191627444:=0
def tw13151691237928921747:=0
def tw10530762948763872378:=0
def tw7971657377159681811:=0
def tw5902389005449348163:=0
def tw12940389770635394945:=0
def tw10756800402260042038:=0
def tw6971425430718616577:=0
def tw8328974671532980523:=0
def tw4025215620688849258:=0
def tw1689920056306587741:=0
def tw16791812094952695684:=0
def tw14761288908747593322:=0
def tw10436663205515631673:=0
def tw13550507604139826264:=0
def tw1285344143234989388:=0
def tw9681897342981810825:=0
def tw16898888997173111583:=0
def tw5431974601768673723:=0
def tw2529106079911000007:=0
def tw6039380053397948578:=0
def tw16139444108256185625:=0
def tw12226569809778989097:=0
def tw7945840842400799913:=0
def tw17455255463911002185:=0
def tw573234252911202474:=0
def tw9439934206045922872:=0
def tw2496148835946427094:=0
def tw13231757637634826630:=0
def tw17521470985002984722:=0
def tw331996514038260214:=0
def tw8461823098014750410:=0
def tw1959657160918663377:=0
def tw3022546387581937732:=0
def tw3909827640091650788:=0
def tw10319453308103047349:=0
def tw15206321096280644551:=0
def tw17796167751716434788:=0
def tw1817166328926823115:=0
def tw9468543361004060391:=0
def tw14156423838975762352:=0
def tw11290387336032570871:=0
def tw17733451463840989797:=0
def tw15717720836920600985:=0
def tw9596256815276467859:=0
def tw172361565214771241:=0
def tw2772474604893460444:=0
def tw12217820349226122916:=0
def tw3118860600358907195:=0
def tw4277187311640568715:=0
def tw4270682562049335481:=0
def tw2357851501296165965:=0
def tw13437800506428058237:=0
def tw13208684710182892134:=0
def tw8606666884992039170:=0
def tw1414981608167080248:=0
def tw14575698702280418963:=0
def tw8406542228476562059:=0
def tw7110019702173560900:=0
def tw2957987899579062163:=0
def tw15679692766786211706:=0
def tw11393025428938936004:=0
def tw4746572658222197813:=0
def tw13279928307691566593:=0
def tw8987597153825227660:=0
def tw9199953131928254856:=0
def tw15881884965552011798:=0
def tw349307787544023:=0
def tw10165158510579912152:=0
def tw15186517533931397735:=0
def tw2433868445189419535:=0
def tw10528042394188179179:=0
def tw7776488635392138380:=0
def tw9783686498336555725:=0
def tw15068410520667221584:=0
def tw17720467743414187063:=0
def tw16420818653629522674:=0
def tw7715430626331178047:=0
def tw14675838171995466255:=0
def tw16384937361080644404:=0
def tw7809139240660807424:=0
def tw15068798810740116053:=0
def tw23420029893324259:=0
def tw7752148444052739868:=0
def tw9060364267149170726:=0
def tw11878400904821781026:=0
def tw7501525194238845583:=0
def tw9746404894578791601:=0
def tw1010005453951176844:=0
def tw14837068358088407551:=0
def tw15328515784300212963:=0
def tw11742545741974810600:=0
def tw250962665007356083:=0
def tw16793539522785743749:=0
def tw13200704569927151741:=0
def tw8952221447425914670:=0
def tw4269807876625797493:=0
def tw6609255583489350840:=0
def tw15447007066780918137:=0
def tw15192690821126991643:=0
def tw14177083864348332741:=0
def tw15065915520390034338:=0
def tw15308523837995152386:=0
def tw6961085279783014934:=0
def tw84162826876331257:=0
end PySem.W.Fast
open PySem PySem.W PyProof.Rows
set_option maxRecDepth 100000 in
set_option maxHeartbeats 0 in
theorem PySem.Challenge.cw_boxpages_s01_answers_holds : PySem.Challenge.rw_boxpages_s01_answers.Holds := by
  w_on; k_headS; (case hw => exact ⟨[.list [.int 13]],by decide +kernel,by decide +kernel⟩)
  k_fillS
  refine L2.wP (r := PySem.Challenge.rw_boxpages_s01_answers) (k := 14) (CX := L2.CX0) (ps := ["calls"]) (sp := Bq.ya) (by decide +kernel) rfl rfl ⟨rfl,by decide,by decide⟩ (fun w h Y => PySem.W.kIn_of Y) ?F ?S (fun _ _ _ _ z => z)
  case F =>
    intro w mg fa h Y KX G hmg
    exact Bq.aeo KX G hmg ⟨⟨_,by k_is,_,_,_,_,_,_,_,_,_,by k_is,by k_is,by k_is⟩,⟨_,by k_is,_,_,_,_,_,_,_,_,_,by k_is,by k_is,by k_is⟩,⟨_,by k_is,_,_,_,_,_,_,_,_,_,by k_is,by k_is,by k_is⟩,⟨_,by k_is,_,_,_,_,_,_,_,_,_,by k_is,by k_is,by k_is⟩,⟨_,by k_is,_,_,_,_,_,_,_,_,_,by k_is,by k_is,by k_is⟩,⟨_,by k_is,_,_,_,_,_,_,_,_,_,by k_is,by k_is,by k_is⟩,⟨_,by k_is,_,_,_,_,_,_,_,_,_,by k_is,by k_is,by k_is⟩,⟨_,by k_is,_,_,_,_,_,_,_,_,_,by k_is,by k_is,by k_is⟩,⟨_,by k_is,_,_,_,_,_,_,_,_,_,by k_is,by k_is,by k_is⟩,⟨_,by k_is,_,_,_,_,_,_,_,_,_,by k_is,by k_is,by k_is⟩,⟨_,by k_is,_,_,_,_,_,_,_,_,_,by k_is,by k_is,by k_is⟩,⟨_,by k_is,_,_,_,_,_,_,_,_,_,by k_is,by k_is,by k_is⟩,⟨_,by k_is,_,_,_,_,_,_,_,_,_,by k_is,by k_is,by k_is⟩,⟨_,by k_is,_,_,_,_,_,_,_,_,_,by k_is,by k_is,by k_is⟩,⟨_,by k_is,_,_,_,_,_,_,_,_,_,by k_is,by k_is,by k_is⟩,⟨_,by k_is,_,_,_,_,_,_,_,_,_,by k_is,by k_is,by k_is⟩,⟨_,by k_is,_,_,_,_,_,_,_,_,_,by k_is,by k_is,by k_is⟩,⟨_,by k_is,_,_,_,_,_,_,_,_,_,by k_is,by k_is,by k_is⟩,⟨_,by k_is,_,_,_,_,_,_,_,_,_,by k_is,by k_is,by k_is⟩,⟨_,by k_is,_,_,_,_,_,_,_,_,_,by k_is,by k_is,by k_is⟩,⟨_,by k_is,_,_,_,_,_,_,_,_,_,by k_is,by k_is,by k_is⟩,⟨_,by k_is,_,_,_,_,_,_,_,_,_,by k_is,by k_is,by k_is⟩,⟨_,by k_is,_,_,_,_,_,_,_,_,_,by k_is,by k_is,by k_is⟩,⟨_,by k_is,_,_,_,_,_,_,_,_,_,by k_is,by k_is,by k_is⟩,⟨_,by k_is,_,_,_,_,_,_,_,_,_,by k_is,by k_is,by k_is⟩,⟨_,by k_is,_,_,_,_,_,_,_,_,_,by k_is,by k_is,by k_is⟩,⟨_,by k_is,_,_,_,_,_,_,_,_,_,by k_is,by k_is,by k_is⟩,⟨_,by k_is,_,_,_,_,_,_,_,_,_,by k_is,by k_is,by k_is⟩,⟨_,by k_is,_,_,_,_,_,_,_,_,_,by k_is,by k_is,by k_is⟩,⟨_,by k_is,_,_,_,_,_,_,_,_,_,by k_is,by k_is,by k_is⟩,⟨_,by k_is,_,_,_,_,_,_,_,_,_,by k_is,by k_is,by k_is⟩,⟨_,by k_is,_,_,_,_,_,_,_,_,_,by k_is,by k_is,by k_is⟩,⟨_,by k_is,_,_,_,_,_,_,_,_,_,by k_is,by k_is,by k_is⟩,⟨_,by k_is,_,_,_,_,_,_,_,_,_,by k_is,by k_is,by k_is⟩,⟨_,by k_is,_,_,_,_,_,_,_,_,_,by k_is,by k_is,by k_is⟩,⟨_,by k_is,_,_,_,_,_,_,_,_,_,by k_is,by k_is,by k_is⟩,⟨_,by k_is,_,_,_,_,_,_,_,_,_,by k_is,by k_is,by k_is⟩,⟨_,by k_is,_,_,_,_,_,_,_,_,_,by k_is,by k_is,by k_is⟩,⟨_,by k_is,_,_,_,_,_,_,_,_,_,by k_is,by k_is,by k_is⟩,⟨_,by k_is,_,_,_,_,_,_,_,_,_,by k_is,by k_is,by k_is⟩,⟨_,by k_is,_,_,_,_,_,_,_,_,_,by k_is,by k_is,by k_is⟩,⟨_,by k_is,_,_,_,_,_,_,_,_,_,by k_is,by k_is,by k_is⟩,⟨_,by k_is,_,_,_,_,_,_,_,_,_,by k_is,by k_is,by k_is⟩,⟨_,by k_is,_,_,_,_,_,_,_,_,_,by k_is,by k_is,by k_is⟩,⟨_,by k_is,_,_,_,_,_,_,_,_,_,by k_is,by k_is,by k_is⟩⟩ ⟨⟨by k_is,by k_is,by k_is,by k_is,by k_is,by k_is,by k_is⟩,⟨by k_is,by k_is,by k_is,by k_is,by k_is,by k_is,by k_is⟩,⟨by k_is,by k_is,by k_is,by k_is,by k_is,by k_is,by k_is⟩,⟨by k_is,by k_is,by k_is,by k_is,by k_is,by k_is,by k_is⟩,⟨by k_is,by k_is,by k_is,by k_is,by k_is,by k_is,by k_is⟩,⟨by k_is,by k_is,by k_is,by k_is,by k_is,by k_is,by k_is⟩,⟨by k_is,by k_is,by k_is,by k_is,by k_is,by k_is,by k_is⟩,⟨by k_is,by k_is,by k_is,by k_is,by k_is,by k_is,by k_is⟩,by k_is,by k_is,by k_is,by k_is,⟨_,by k_is,by k_is,_,_,_,_,_,_,_,_,_,by k_is,by k_is,by k_is⟩,by k_is,by k_is,by k_is,by k_is,by k_is,⟨_,by k_is,by k_is,_,_,_,_,_,_,_,_,_,by k_is,by k_is,by k_is⟩,by k_is,by k_is,by k_is,by k_is,by k_is,by k_is,by k_is,⟨_,by k_is,by k_is,_,_,_,_,_,_,_,_,_,by k_is,by k_is,by k_is⟩,⟨_,by k_is,by k_is,_,_,_,_,_,_,_,_,_,by k_is,by k_is,by k_is⟩,⟨_,by k_is,by k_is,_,_,_,_,_,_,_,_,_,by k_is,by k_is,by k_is⟩,⟨_,by k_is,by k_is,_,_,_,_,_,_,_,_,_,by k_is,by k_is,by k_is⟩,⟨_,by k_is,by k_is,_,_,_,_,_,_,_,_,_,by k_is,by k_is,by k_is⟩,⟨_,by k_is,by k_is,_,_,_,_,_,_,_,_,_,by k_is,by k_is,by k_is⟩,⟨_,by k_is,by k_is,_,_,_,_,_,_,_,_,_,by k_is,by k_is,by k_is⟩,by k_is,by k_is,by k_is,by k_is,by k_is,by k_is,by k_is,by k_is,⟨_,by k_is,by k_is,_,_,_,_,_,_,_,_,_,by k_is,by k_is,by k_is⟩,by k_is,by k_is,by k_is,⟨_,by k_is,by k_is,_,_,_,_,_,_,_,_,_,by k_is,by k_is,by k_is⟩,⟨_,by k_is,by k_is,_,_,_,_,_,_,_,_,_,by k_is,by k_is,by k_is⟩,by k_is,by k_is,by k_is,by k_is,⟨_,by k_is,by k_is,_,_,_,_,_,_,_,_,_,by k_is,by k_is,by k_is⟩,⟨_,by k_is,by k_is,_,_,_,_,_,_,_,_,_,by k_is,by k_is,by k_is⟩,⟨_,by k_is,by k_is,_,_,_,_,_,_,_,_,_,by k_is,by k_is,by k_is⟩,⟨_,by k_is,by k_is,_,_,_,_,_,_,_,_,_,by k_is,by k_is,by k_is⟩,⟨_,by k_is,by k_is,_,_,_,_,_,_,_,_,_,by k_is,by k_is,by k_is⟩,⟨_,by k_is,by k_is,_,_,_,_,_,_,_,_,_,by k_is,by k_is,by k_is⟩,⟨_,by k_is,by k_is,_,_,_,_,_,_,_,_,_,by k_is,by k_is,by k_is⟩,⟨_,by k_is,by k_is,_,_,_,_,_,_,_,_,_,by k_is,by k_is,by k_is⟩,by k_is,by k_is,by k_is,⟨_,by k_is,by k_is,_,_,_,_,_,_,_,_,_,by k_is,by k_is,by k_is⟩,⟨_,by k_is,by k_is,_,_,_,_,_,_,_,_,_,by k_is,by k_is,by k_is⟩,⟨_,by k_is,by k_is,_,_,_,_,_,_,_,_,_,by k_is,by k_is,by k_is⟩,⟨_,by k_is,by k_is,_,_,_,_,_,_,_,_,_,by k_is,by k_is,by k_is⟩,⟨_,by k_is,by k_is,_,_,_,_,_,_,_,_,_,by k_is,by k_is,by k_is⟩,⟨_,by k_is,by k_is,_,_,_,_,_,_,_,_,_,by k_is,by k_is,by k_is⟩,⟨_,by k_is,by k_is,_,_,_,_,_,_,_,_,_,by k_is,by k_is,by k_is⟩,⟨_,by k_is,by k_is,_,_,_,_,_,_,_,_,_,by k_is,by k_is,by k_is⟩,⟨_,by k_is,by k_is,_,_,_,_,_,_,_,_,_,by k_is,by k_is,by k_is⟩,⟨_,by k_is,by k_is,_,_,_,_,_,_,_,_,_,by k_is,by k_is,by k_is⟩,⟨_,by k_is,by k_is,_,_,_,_,_,_,_,_,_,by k_is,by k_is,by k_is⟩,⟨_,by k_is,by k_is,_,_,_,_,_,_,_,_,_,by k_is,by k_is,by k_is⟩,⟨_,by k_is,by k_is,_,_,_,_,_,_,_,_,_,by k_is,by k_is,by k_is⟩,⟨_,by k_is,by k_is,_,_,_,_,_,_,_,_,_,by k_is,by k_is,by k_is⟩,⟨_,by k_is,by k_is,_,_,_,_,_,_,_,_,_,by k_is,by k_is,by k_is⟩,⟨_,by k_is,by k_is,_,_,_,_,_,_,_,_,_,by k_is,by k_is,by k_is⟩,⟨_,by k_is,by k_is,_,_,_,_,_,_,_,_,_,by k_is,by k_is,by k_is⟩,⟨_,by k_is,by k_is,_,_,_,_,_,_,_,_,_,by k_is,by k_is,by k_is⟩,⟨_,by k_is,by k_is,_,_,_,_,_,_,_,_,_,by k_is,by k_is,by k_is⟩,by k_is,by k_is,⟨_,by k_is,by k_is,_,_,_,_,_,_,_,_,_,by k_is,by k_is,by k_is⟩,⟨_,by k_is,by k_is,_,_,_,_,_,_,_,_,_,by k_is,by k_is,by k_is⟩,⟨_,by k_is,by k_is,_,_,_,_,_,_,_,_,_,by k_is,by k_is,by k_is⟩,⟨_,by k_is,by k_is,_,_,_,_,_,_,_,_,_,by k_is,by k_is,by k_is⟩,⟨_,by k_is,by k_is,_,_,_,_,_,_,_,_,_,by k_is,by k_is,by k_is⟩⟩ ⟨⟨_,by k_is⟩,⟨_,by k_is⟩,⟨_,by k_is⟩,⟨_,by k_is⟩,⟨_,by k_is⟩,⟨_,by k_is⟩,⟨_,by k_is⟩,⟨_,by k_is⟩,⟨_,by k_is⟩,⟨_,by k_is⟩,⟨_,by k_is⟩,⟨_,by k_is⟩,⟨_,by k_is⟩,⟨_,by k_is⟩,⟨_,by k_is⟩,⟨_,by k_is⟩,⟨_,by k_is⟩,⟨_,by k_is⟩,⟨_,by k_is⟩,⟨_,by k_is⟩,⟨_,by k_is⟩,⟨_,by k_is⟩,⟨_,by k_is⟩,⟨_,by k_is⟩,⟨_,by k_is⟩,⟨_,by k_is⟩,⟨_,by k_is⟩,⟨_,by k_is⟩,⟨_,by k_is⟩,⟨_,by k_is⟩,⟨_,by k_is⟩,⟨_,by k_is⟩,⟨_,by k_is⟩,⟨_,by k_is⟩,⟨_,by k_is⟩,⟨_,by k_is⟩,⟨_,by k_is⟩,⟨_,by k_is⟩,⟨_,by k_is⟩,⟨_,by k_is⟩,⟨_,by k_is⟩,⟨_,by k_is⟩,⟨_,by k_is⟩⟩ ⟨by k_is,by k_is,by k_is,by k_is,by k_is,by k_is,by k_is,by k_is,by k_is,by k_is⟩ ⟨⟨_,_,_,_,_,_,_,_,by k_is,by k_is,⟨_,_,_,_,_,by k_is⟩,⟨_,_,_,_,_,by k_is⟩,⟨_,_,_,_,_,by k_is⟩,⟨_,_,_,_,_,by k_is⟩⟩,⟨_,_,_,_,_,by k_is,by k_is,⟨_,_,_,_,_,by k_is⟩⟩,⟨_,_,_,_,_,_,_,_,_,_,_,by k_is,by k_is,⟨_,_,_,_,_,by k_is⟩,⟨_,_,_,_,_,by k_is⟩,⟨_,_,_,_,_,by k_is⟩,⟨_,_,_,_,_,by k_is⟩,⟨_,_,_,_,_,by k_is⟩,⟨_,_,_,_,_,by k_is⟩,⟨_,_,_,_,_,by k_is⟩⟩,⟨_,_,_,_,_,_,_,_,by k_is,by k_is,⟨_,_,_,_,_,by k_is⟩,⟨_,_,_,_,_,by k_is⟩,⟨_,_,_,_,_,by k_is⟩,⟨_,_,_,_,_,by k_is⟩⟩,⟨_,_,_,_,_,_,_,_,_,_,by k_is,by k_is,⟨_,_,_,_,_,by k_is⟩,⟨_,_,_,_,_,by k_is⟩,⟨_,_,_,_,_,by k_is⟩,⟨_,_,_,_,_,by k_is⟩,⟨_,_,_,_,_,by k_is⟩,⟨_,_,_,_,_,by k_is⟩⟩,⟨_,_,_,_,_,_,_,_,by k_is,by k_is⟩,⟨_,_,_,_,_,_,_,_,_,_,by k_is,by k_is⟩,⟨_,_,_,_,_,_,_,_,_,_,_,_,_,_,_,_,_,_,by k_is,by k_is,by k_is,by k_is,by k_is,by k_is,by k_is,by k_is,by k_is,by k_is,by k_is,by k_is,by k_is,by k_is,by k_is,by k_is⟩⟩ ⟨by decide,by decide,by decide,by decide,by decide,by decide,by decide,by decide,by decide,by decide,by decide,by decide,by decide,by decide,by decide⟩
  case S =>
    intro K H xs a hO hwi hask hx
    cases hx with
    | cons h1 h2 =>
      cases h2
      cases h1 with
      | lst hs ha =>
        have e := L2.yb a.1 _ ha
        subst e
        exact ⟨_,a.1,rfl,⟨_,_,rfl,hs,Bq.All.of_ints _⟩,hask,fun H' p hp => .lst (L2.SqL.of hp) (L2.yh _)⟩
