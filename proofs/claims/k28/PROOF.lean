import PyProof.Rows.All
import Wide.All
import OpenK.AllK
import Wide.FinOn
import HandS.Base
import HandS.Call
import HandS.List
import HandS.Comp
import HandS.Ends
import HandS.Dict
import HandS.Iter
import HandS.Text
import HandS.Words
import HandS.Exc
import HandS.ExcOwn
import KE.KRevSl
import HandS.ForMost
import HandS.TryMany
import HandS.WordsExc
import HandS.IsInst
import HandS.Conv
import HandS.TupAny
import HandS.Style
import HandS.Walk
import KE.GoesMore
import KE.GoesEnum
import KE.LtData
import KE.KSortAsk
import HandS.Sort
import HandS.SortOrd
import HandS.SortInts
import KE.SortKeyHeap
import HandS.SortKw
import HandS.Keys
import KE.BitLaws
import HandS.WideBits
import HandS.Strs
import HandS.SetFor
import HandS.Zip
import HandS.ExcIs
import HandS.Gcd
import KE.KMathGC
import KE.SortData
import HandS.Deep
import HandS.ExcInit
import HandS.ExcField
import HandS.ClsMeth
import PyProof.TupleOfSeq
import KE.KExcIs
import PyProof.EqAt
import PyProof.EqKinds
import HandS.Flow
import HandS.TupMul
import HandS.More
import HandS.DeepEq
import KE.KDictZip
import HandS.ListItems
import KE.KDictPairs
import KE.KTurns
import HandS.TryOnly
import PyProof.ListMulRoad
import PyProof.FactsAll.tuple_2
import PyProof.P3In
import PyProof.Dict
import PyProof.FactsAll.dict_1
import KE.KDictWalk
import KE.KDictDisplayH
import PySem.Challenge.RW_onescale_k28_gains_of_one_lot
set_option Elab.async false
set_option linter.all false
set_option maxRecDepth 100000
set_option maxHeartbeats 4000000
namespace Own
open PySem PySem.Spec PyProof.Rows L2

/-! ### repr of data, where no repr is under way -/
section
variable {X : Cx}
def rRepr (K : PySem.W.Frag) : List V → Hp → VK → Prop := fun xs H Q =>
  ∃ (v : V) (d : PyData), xs = [v] ∧ Dp K H v d ∧ d.showable = true ∧ d.hasDict = false ∧ d.depth ≤ 60 ∧ d.shown.length ≤ sizeLine ∧ Q (.str d.shown) H
theorem call_repr (hg : X.A.guards = some []) (hu : X.A.units + 64 < cLine) : CallR X (.builtin "repr") (rRepr X.K) := by
  rintro pins s σ H xs us Q I rv ⟨v, d, rfl, hd, hs, hn, hdp, hz, q⟩
  obtain ⟨u, rfl, ru⟩ := vals1 rv
  obtain ⟨as, rd⟩ := Dp.reads I d v u hd ru
  cases rd with
  | none => exact PySem.P.repr_of_none ⟨.str "None", H, I.tok _, ⟨_, rfl⟩, by simpa only [PyData.shown] using q⟩
  | bool b => exact PySem.P.repr_of_bool ⟨.str _, H, I.tok _, ⟨_, rfl⟩, by simpa only [PyData.shown] using q⟩
  | int i t => exact PySem.P.repr_of_int (by simpa [PyData.showable] using hs) ⟨.str _, H, I.tok _, ⟨_, rfl⟩, by simpa only [PyData.shown] using q⟩
  | str y t => exact PySem.P.repr_of_str ⟨.str _, H, I.tok _, ⟨_, rfl⟩, by simpa only [PyData.shown] using q⟩ (by simpa only [PyData.shown] using hz)
  | list h1 h2 h3 h4 =>
    exact repr_of_reads' (.list h1 h2 h3 h4) hs (PyData.noDict_hsm hn) hg (by omega) (fun _ _ e => e)
      (fun h' w' tk hk => ⟨.str _, H, I.kept (t' := tk) hk, ⟨_, rfl⟩, q⟩) hz
  | tuple h1 h2 h3 h4 =>
    exact repr_of_reads' (.tuple h1 h2 h3 h4) hs (PyData.noDict_hsm hn) hg (by omega) (fun _ _ e => e)
      (fun h' w' tk hk => ⟨.str _, H, I.kept (t' := tk) hk, ⟨_, rfl⟩, q⟩) hz
  | dict h1 h2 h3 h4 h5 => simp [PyData.hasDict] at hn
end

/-! ### defs that are called where no repr is under way -/
structure FnG (P : Program) (w : World) (K : PySem.W.Frag) (mg : Str → Option Value) (base : Heap) (k : Nat) (f : Addr) (fd : FuncData) (ps : List Str) (sp : Sp) : Prop where
  len : ∀ vs H Q E, sp vs H Q E → vs.length = ps.length
  run : ∀ (A : Around) (outer : List Env) (s : Shared) (H : Hp) (args : Args) (us : List Value) (vs : List V) (Q : VK), Room k A → A.guards = some [] →
    Env0 P w K mg base A outer s H → BindsTo s fd args (ps.zip us) → Vals vs us → sp vs H Q E0 →
    codeAny (model P w) A (.call (.ref f) args) (CR CX0 outer P w H s Q E0) s
section
variable {P : Program} {w : World} {K : PySem.W.Frag} {mg : Str → Option Value} {base : Heap}
theorem okG {x qual : Str} {st : Stmt} {f : Addr} {fd : FuncData} {N ps : List Str} {k : Nat} {sp : Sp} (F : Fun K x qual st f fd) (S : FnScope N ps (defScope st))
    (len : ∀ vs H Q E, sp vs H Q E → vs.length = ps.length)
    (hbody : ∀ (cdv : Value) (A : Around) (outer : List Env) (s : Shared) (H : Hp) (vs : List V) (Q : VK), Room k (A.deeper (envOfC qual (defScope st) s.heap.objs.size f cdv)) → A.guards = some [] → sp vs H Q E0 →
      ∃ t, PSs (cxOf CX0 P w K mg base N qual (defScope st) f cdv A outer s H E0).nox (defBody st) t ∧ t { nx := fun _ H' => Q .non H', rt := Q } (start N vs) H) :
    FnG P w K mg base (k + 1) f fd ps sp := by
  obtain ⟨oc, od, kV, doc, pm, an, cdv, ct, osl, rfl, lk, hcd⟩ := F.ex
  constructor
  · exact len
  intro A outer s H args us vs Q hr hgd e0 hb rel hsp
  have old : ∀ b o, base.get? b = some o → s.heap.get? b = some o := fun b o e => (e0.bs b o e).1
  have kin : K.In s.heap := e0.mod.kin.keeps old
  have kinds : ∀ y ∈ ps.zip us, (defScope st).names.lookup y.1 = some .local ∨
      ((defScope st).names.lookup y.1 = some .cell ∧ ((cellsFrom (s.heap.objs.size + 1) (defScope st).names []).lookup y.1).isSome = true) := by
    rintro ⟨n, v⟩ hy
    rcases S.par n (List.of_mem_zip hy).1 with loc | cel
    · exact .inl loc
    · exact .inr ⟨cel, PySem.W.cellsFrom_some _ _ _ (.inl cel)⟩
  refine codeAny_call_function hr.depth (kin _ _ lk) rfl S.co S.gen rfl (PySem.W.codeRec_of kin hcd) (hb _ _ _ _ (wpAny_newFunctionEnv_cells S.kind kinds ?_))
  rintro env rfl s1 x
  obtain ⟨t, ht, goal⟩ := hbody cdv A outer s H vs Q (hr.deeper _) hgd hsp
  have ini : Inv (cxOf CX0 P w K mg base N qual (defScope st) f cdv A outer s H E0) [] (start N vs) H s1 := inv_start S hr.hd e0 (len _ _ _ _ hsp) rel x
  refine ⟨(e0.mod.nolimit.keeps old).keeps x.toInCall.keep, codeAny_func (wpAny_mono (ht.nox.run [] s1 _ H _ ini goal) (fun fl s' hs => ?_) fun e s' z => z)⟩
  cases fl with
  | ret u =>
    obtain ⟨v, σ', H', J, rv, q⟩ := hs
    exact ⟨v, H', J.os, J.bare, J.base, J.hok, rv, q⟩
  | next =>
    obtain ⟨σ', H', J, q⟩ := hs
    exact ⟨.non, H', J.os, J.bare, J.base, J.hok, rfl, q⟩
  | brk => exact (hs.choose_spec.choose_spec.2).elim
  | cont => exact (hs.choose_spec.choose_spec.2).elim
end
section
variable {X : Cx} {k : Nat} {f : Addr} {fd : FuncData} {ps : List Str} {sp : Sp} {x : Str} {p pos : Pos} {e : Expr} {es : List Expr} {t : TA}
theorem FnG.of {P : Program} {w : World} {K : PySem.W.Frag} {mg : Str → Option Value} {base : Heap} (F : FnOk P w K mg base CX0 k f fd ps sp) : FnG P w K mg base k f fd ps sp :=
  ⟨F.len, fun A outer s H args us vs Q hr _ e0 hb rel hsp => F.run A outer s H args us vs Q E0 hr e0 hb rel hsp⟩
/-- the call's end, back in the caller -/
theorem backG {pins : List (Addr × Obj)} {σ : L2.St} {H : Hp} {s : Shared} {Q : VK} {args : Args} {us : List Value} {vs : List V} (F : FnG X.prog X.w X.K X.mg X.base k f fd ps sp) (hr : Room k X.A) (hgd : X.A.guards = some [])
    (I : Inv X pins σ H s) (hb : BindsTo s fd args (ps.zip us)) (rel : Vals vs us) (h : sp vs H Q E0) : wpAny (model X.prog X.w) X.A (call (.ref f) args.pos args.kw) (EP X pins σ Q) X.xe s := by
  refine wpAny_call (codeAny_mono (F.run X.A X.stack s H args us vs Q hr hgd I.env0 hb rel h) fun res s' hq => ?_)
  match res, hq with
  | .ok (.ret u), hq => exact I.after hq
  | .ok .next, hq => exact hq.elim
  | .ok .brk, hq => exact hq.elim
  | .ok .cont, hq => exact hq.elim
  | .error e, hq => exact hq.elim
theorem pe_callG (F : FnG X.prog X.w X.K X.mg X.base k f fd ps sp) (hr : Room k X.A) (hgd : X.A.guards = some []) (hg : Gl X x) (hm : X.mg x = some (.ref f)) (hk : PySem.W.keepIn X.K (.ref f) = true) (hb : Binds X.K fd ps [])
    (ha : PA X (e :: es) t) (hdb : (x == ("__debug__" : Str)) = false := by decide) (he : starEach (e :: es) X.env = (false, eval e X.env) :: starEach es X.env := by rfl) (hpl : (backTo pos (starEach es X.env)).any (·.1) = false := by rfl) :
    PE X (.Call (.Name x p) (e :: es) [] pos) (tCall sp [] E0 t) := by
  constructor
  intro pins s σ H Q I h
  have body := ha.run pos pins s σ H _ I h
  refine wpAny_Call_Name_kw (ld_glob I hg hm (PySem.W.callWith_K (h₀ := X.base) I.ok.mod.kin hk (thn body ?_) he hpl) hdb)
  rintro us s1 ⟨vs, H1, I1, rel, q⟩
  refine ⟨I1.kIn, ?_⟩
  rw [List.append_nil] at q
  have hl : us.length = ps.length := rel.length.symm.trans (F.len _ _ _ _ q)
  have b := hb s1 us I1.kIn (by rw [List.append_nil]; exact hl)
  rw [List.append_nil] at b
  exact backG (args := ⟨us, []⟩) F hr hgd I1 b rel q
end
end Own

namespace Own
open PySem PySem.Spec PyProof.Rows L2

/-! ### calls by keywords alone -/
/-- the keywords' values in the parameters' order -/
def inOrder {α : Type} (o : α) (π : List Nat) (zs : List α) : List α := π.map fun i => (zs[i]?).getD o
theorem rel_getD : ∀ {zs : List V} {ws : List Value} (i : Nat), Vals zs ws → L2.RelV ((zs[i]?).getD .non) ((ws[i]?).getD .none)
  | _, _, i, .nil => by simp [L2.RelV]
  | _, _, 0, .cons r _ => by simpa using r
  | _, _, i + 1, .cons _ t => by simpa using rel_getD i t
theorem rel_inOrder {zs : List V} {ws : List Value} (r : Vals zs ws) : ∀ π : List Nat, Vals (inOrder .non π zs) (inOrder .none π ws)
  | [] => .nil
  | i :: π => .cons (rel_getD i r) (rel_inOrder r π)
section
variable {X : Cx} {CX : CXT} {k : Nat} {f : Addr} {fd : FuncData} {ps ks : List Str} {sp : Sp} {E : L2.St → XK} {x : Str} {p pos : Pos} {kws : List Keyword} {tk : TA} {π : List Nat}
/-- how a call by keywords alone binds -/
def KwBinds (fd : FuncData) (ps ks : List Str) (π : List Nat) : Prop := ∀ (s : Shared) (ws : List Value), ws.length = ks.length → BindsTo s fd ⟨[], ks.zip ws⟩ (ps.zip (inOrder .none π ws))
def tKw (sp : Sp) (π : List Nat) (n : Nat) (E : L2.St → XK) (tk : TA) : TE := fun σ H Q => tk σ H fun zs H1 => zs.length = n ∧ sp (inOrder .non π zs) H1 Q (E σ)
theorem pe_kwS (F : FnOk X.prog X.w X.K X.mg X.base CX k f fd ps sp) (hr : Room k X.A) (hg : Gl X x) (hm : X.mg x = some (.ref f)) (hk : PySem.W.keepIn X.K (.ref f) = true) (hb : KwBinds fd ps ks π)
    (hx : ∀ σ, PassesAt CX X σ (E σ)) (hkw : PK X kws tk)
    (hall : (backToKw pos (keywordEach kws X.env)).all (·.1.isSome) = true := by rfl) (hks : (backToKw pos (keywordEach kws X.env)).filterMap (·.1) = ks := by rfl) (hdb : (x == ("__debug__" : Str)) = false := by decide)
    (hpl : ((backTo pos (starEach [] X.env)).any (·.1) || (backToKw pos (keywordEach kws X.env)).any (·.1.isNone)) = false := by rfl) :
    PE X (.Call (.Name x p) [] kws pos) (tKw sp π ks.length E tk) := by
  constructor
  intro pins s σ H Q I h
  have args := hkw.run pos pins s σ H _ I h
  refine wpAny_Call_Name_kw (ld_glob I hg hm (PySem.W.callWith_KW0 (h₀ := X.base) I.ok.mod.kin hk hall (thn args ?_) hpl) hdb)
  rintro ws s2 ⟨zs, H2, I2, rz, hn, q2⟩
  refine ⟨I2.kIn, ?_⟩
  rw [hks]
  have hb2 := hb s2 ws (rz.length.symm.trans hn)
  refine wpAny_call (codeAny_mono (F.run X.A X.stack s2 H2 ⟨[], ks.zip ws⟩ (inOrder .none π ws) (inOrder .non π zs) Q (E σ) hr I2.env0 hb2 (rel_inOrder rz π) q2) fun res s' hq => ?_)
  match res, hq with
  | .ok (.ret u), hq => exact I2.after hq
  | .ok .next, hq => exact hq.elim
  | .ok .brk, hq => exact hq.elim
  | .ok .cont, hq => exact hq.elim
  | .error e, hq => exact hx σ pins H2 s2 e s' I2 hq
/-- .. where nothing may be raised -/
theorem pe_kw {E1 : XK} (F : FnOk X.prog X.w X.K X.mg X.base CX k f fd ps sp) (hr : Room k X.A) (hg : Gl X x) (hm : X.mg x = some (.ref f)) (hk : PySem.W.keepIn X.K (.ref f) = true) (hb : KwBinds fd ps ks π)
    (hx : Passes CX X E1) (hkw : PK X kws tk)
    (hall : (backToKw pos (keywordEach kws X.env)).all (·.1.isSome) = true := by rfl) (hks : (backToKw pos (keywordEach kws X.env)).filterMap (·.1) = ks := by rfl) (hdb : (x == ("__debug__" : Str)) = false := by decide)
    (hpl : ((backTo pos (starEach [] X.env)).any (·.1) || (backToKw pos (keywordEach kws X.env)).any (·.1.isNone)) = false := by rfl) :
    PE X (.Call (.Name x p) [] kws pos) (tKw sp π ks.length (fun _ => E1) tk) :=
  pe_kwS F hr hg hm hk hb (fun σ pins H s e s' I c => hx pins σ H s e s' I c) hkw hall hks hdb hpl
end
theorem kwBinds {K : PySem.W.Frag} {x qual : Str} {st : Stmt} {f : Addr} {fd : FuncData} {ps ks : List Str} {π : List Nat} (F : Fun K x qual st f fd)
    (h : ∀ (kV doc pm : Value) (an : Option Addr) (cdv ct : Value) (ws : List Value), ws.length = ks.length → bindArgs (PySem.W.fnOf x qual (defArgs st) (defBody st) (defScope st) .none kV doc pm an cdv ct) ⟨[], ks.zip ws⟩ = pure (ps.zip (inOrder .none π ws))) : KwBinds fd ps ks π := by
  obtain ⟨oc, od, kV, doc, pm, an, cdv, ct, osl, rfl, lk, hcd⟩ := F.ex
  exact fun s ws hw => .of_eq (h kV doc pm an cdv ct ws hw)

/-! ### t[::-1] of a tuple -/
section
variable {prog : Program} {w : World} {A : Around} {E : Value → Shared → Prop} {s : Shared}
theorem adjust_back (n : Nat) : Builtin.Slice.sliceAdjust none none (-1) (n : Int) = ((n : Int) - 1, -1) := by
  unfold Builtin.Slice.sliceAdjust
  simp
theorem places_back (n : Nat) : Builtin.Slice.slicePlaces ((n : Int) - 1) (-1) (-1) = n := by
  have h1 : ¬ ((-1 : Int) > 0) := by omega
  have h2 : (-(-1) : Int) = 1 := by decide
  unfold Builtin.Slice.slicePlaces
  rw [if_neg h1, h2, Int.ediv_one]
  split <;> omega
theorem applied_back {sl : Addr} {vs : Value} {n : Nat} {Q : Int × Int × Nat → Shared → Prop} (hs : s.heap.IsSliceOf sl .none .none vs) (pst : IsPart vs (some (-1)))
    (h : Q ((n : Int) - 1, -1, n) s) : wpAny (model prog w) A (Builtin.Slice.sliceApplied (.ref sl) (pure (n : Int))) Q E s := by
  obtain ⟨os, hos, hcs, hds⟩ := id hs
  unfold Builtin.Slice.sliceApplied Builtin.Slice.sliceFields
  refine wpAny_bind (wpAny_bind (wpAny_field hos hds (x := .none) rfl (wpAny_bind (wpAny_field hos hds (x := .none) rfl (wpAny_bind (wpAny_field hos hds (x := vs) rfl (wpAny_pure ?_)))))))
  refine wpAny_bind (HT.slicePart_ pst ?_)
  show wpAny _ _ (if ((-1 : Int) == 0) = true then _ else _) _ _ s
  rw [if_neg (by decide)]
  refine wpAny_bind (HT.slicePart_ IsPart.none (wpAny_bind (HT.slicePart_ IsPart.none (wpAny_bind (wpAny_pure ?_)))))
  show wpAny _ _ (match Builtin.Slice.sliceAdjust none none (-1) (n : Int) with | (lo, hi) => pure (lo, (-1 : Int), Builtin.Slice.slicePlaces lo hi (-1))) _ _ s
  rw [adjust_back n]
  show wpAny _ _ (pure ((n : Int) - 1, (-1 : Int), Builtin.Slice.slicePlaces ((n : Int) - 1) (-1) (-1))) _ _ s
  rw [places_back]
  exact wpAny_pure h
theorem pick_back (xs : Array Value) : ((List.range xs.size).filterMap fun (m : Nat) => xs[((xs.size : Int) - 1 + (m : Int) * -1).toNat]?).toArray = xs.toList.reverse.toArray := by
  have e1 : (List.range xs.size).filterMap (fun (m : Nat) => xs[((xs.size : Int) - 1 + (m : Int) * -1).toNat]?) = ((List.range xs.size).map fun k => xs.size - 1 - k).filterMap (xs[·]?) := by
    rw [List.filterMap_map]
    congr 1
    funext m
    have : ((xs.size : Int) - 1 + (m : Int) * -1).toNat = xs.size - 1 - m := by omega
    rw [this]
    rfl
  rw [e1, PySem.W.krv_range, List.filterMap_reverse, PySem.W.krv_all]
theorem getItem_back {t sl : Addr} {items : Array Value} {vs : Value} {Q : Value → Shared → Prop} (ht : IsTup s.heap t items) (hs : s.heap.IsSliceOf sl .none .none vs) (pst : IsPart vs (some (-1)))
    (h : Q (.ref s.heap.objs.size) { s with heap := s.heap.push { cls := .type "tuple", data := .seq items.toList.reverse.toArray } }) (hsz : items.size ≤ sizeLine) :
    wpAny (model prog w) A (getItem (.ref t) (.ref sl)) Q E s := by
  have fits : sizeOk (.seq items.toList.reverse.toArray) := by
    show items.toList.reverse.toArray.size ≤ sizeLine
    rw [List.size_toArray, List.length_reverse, Array.length_toList]
    exact hsz
  obtain ⟨os, hos, hcs, hds⟩ := id hs
  have hTs : s.TypeIs (.ref sl) "slice" := ⟨os, hos, hcs⟩
  unfold getItem
  try with_reducible refine wpAny_holding ?_
  first | refine wpAny_bind (wpAny_pure ?_) | skip
  refine wpAny_bind (wpAny_sequenceKey ht.typeIs (by decide) (wpAny_bind (wpAny_callSpecial?_slot (name := Str.ofString "__getitem__") ht.typeIs PyProof.Rows.slot_tuple_getitem
    (wpAny_call_entry PyProof.Rows.slot_tuple_getitem ht.typeIs entry_tuple_getitem ?_ (args_tuple_getitem _ _)))))
  show wpAny _ _ (Builtin.Tuple.tupleItemsOf (.ref t) >>= _) _ _ s
  refine wpAny_bind (tupleItemsOf_ ht (wpAny_bind (wpAny_typeOf hTs ?_)))
  rw [if_pos (by decide)]
  refine wpAny_bind (applied_back hs pst ?_)
  have no : ¬ (((items.size : Int) - 1 == 0 && (-1 : Int) == 1 && items.size == items.size) = true) := by
    intro q
    rw [Bool.and_eq_true, Bool.and_eq_true] at q
    exact absurd q.1.2 (by decide)
  show wpAny _ _ (if ((items.size : Int) - 1 == 0 && (-1 : Int) == 1 && items.size == items.size) = true then _ else _) _ _ s
  rw [if_neg no, pick_back]
  first
    | exact wpAny_bind (m := Builtin.Tuple.tupleExact _) (wpAny_newObj_type (wpAny_pure ⟨_, rfl, wpAny_pure h⟩) fits)
    | exact wpAny_bind (wpAny_bind (m := Builtin.Tuple.tupleExact _) (wpAny_newObj_type (wpAny_pure ⟨_, rfl, wpAny_pure h⟩) fits))
    | exact wpAny_bind (m := Builtin.Tuple.tupleExact _) (wpAny_newObj_type (wpAny_bind (wpAny_pure (wpAny_pure ⟨_, rfl, wpAny_pure h⟩))) fits)
end
section
variable {X : Cx}
def tRevT (K : PySem.W.Frag) (te : TE) : TE := fun σ H Q => te σ H fun x H1 => ∃ a xs, x = .ref a ∧ SqT K H1 a xs ∧ ∀ p, H1 p = none → Q (.ref p) (upd H1 p (.tup xs.reverse))
theorem pe_revT {e : Expr} {te : TE} {k : Nat} {p1 p2 p3 pos : Pos} (he : PE X e te) : PE X (.Subscript e (.Slice none none (some (.UnaryOp .USub (.Constant (.int 1) k p1) p2)) p3) pos) (tRevT X.K te) := by
  constructor
  intro pins s σ H Q I h
  refine Subscript_ (thn (he.run pins s σ H _ I h) ?_)
  rintro v s1 ⟨x, H1, I1, r1, a, xs, rfl, hx, q⟩
  cases r1
  have step : PO X (some (.UnaryOp .USub (.Constant (.int 1) k p1) p2)) (tPart (tUn (rU fun i => .int (-i)) (tC (.int 1)))) := po_some (pe_un un_neg pe_int)
  refine wpAny_Slice (thn (po_none.run pins s1 σ H1 (fun o H2 => o = none ∧ H2 = H1) I1 ⟨rfl, rfl⟩) ?_)
  rintro vl s2 ⟨l, H2, I2, pl, rfl, rfl⟩
  refine thn (po_none.run pins s2 σ H2 (fun o H3 => o = none ∧ H3 = H2) I2 ⟨rfl, rfl⟩) ?_
  rintro vu s3 ⟨u, H3, I3, pu, rfl, rfl⟩
  refine thn (step.run pins s3 σ H3 (fun o H4 => o = some (-1) ∧ H4 = H3) I3 ⟨1, rfl, -1, rfl, rfl, rfl⟩) ?_
  rintro vst s4 ⟨o, H4, I4, pst, rfl, rfl⟩
  cases pl
  cases pu
  generalize hs5 : ({ s4 with heap := s4.heap.push { cls := .type "slice", data := .fields #[.none, .none, vst] } } : Shared) = s5
  have I5 : Inv X pins σ H4 s5 := by
    rw [← hs5]
    exact I4.kept (t' := s4.toks) fun b ob z => Heap.get?_push_of_some _ z
  obtain ⟨its, rel, ht, hz⟩ := I5.tuple hx
  have hlen := rel.length
  have hsl : s5.heap.IsSliceOf s4.heap.objs.size .none .none vst := by
    rw [← hs5]
    exact Heap.IsSliceOf.new ..
  show wpAny (model X.prog X.w) X.A (subscriptTail e (.Slice none none (some (.UnaryOp .USub (.Constant (.int 1) k p1) p2)) p3) (.ref a) (.ref s4.heap.objs.size)) (EP X pins σ Q) X.xe _
  refine tail_any (ops := [.ref a, .ref s4.heap.objs.size]) ht.typeIs (PyProof.Rows.slot_tuple_getitem.lookup) ?_ (by with_unfolding_all rfl)
  refine getItem_back ht hsl pst ?_ (by rw [List.size_toArray]; omega)
  refine ⟨.ref _, _, I5.laid (t' := s5.toks) (o := .tup xs.reverse) (fun b ob z => Heap.get?_push_of_some _ z) (Nat.le_refl _) ?_, rfl, q _ (I5.hok.fresh (Nat.le_refl _))⟩
  exact ⟨by rw [List.length_reverse]; exact hz, _, rel.reverse, IsTup.new _ _⟩
end
end Own

namespace Own
open PySem PySem.Spec PyProof.Rows L2

/-! ### the end: the law's def under FnG -/
/-- the script's object, hidden from the base (or, a part of the written text, nothing is hidden) -/
def scriptHp (a : Addr) (vs : List Value) (ns : List Int) : Hp := fun b => if b = a then some (.frz { cls := .type "list", data := .seq vs.toArray } (.lst (ns.map V.int))) else none
theorem end_of {P : Program} {w : World} {K : PySem.W.Frag} {mg mb : Str → Option Value} {k : Nat} {fa a : Addr} {fd : FuncData} {x : Str} {sp : Sp} {s₁ : Shared} {vs : List Value} {ns : List Int} {H : Hp}
    (KX : K.In s₁.heap) (hns : s₁.heap.Ns mainGlobals mg) (hb : s₁.heap.Ns builtinsNs mb) (hbb : ∀ x : Str, x ≠ "__name__" → mb x = bootBuiltins x) (hlim : s₁.heap.NoLimit) (hg : s₁.gens = #[])
    (ha : s₁.heap.get? a = some { cls := .type "list", data := .seq vs.toArray }) (hr : Room k callerA)
    (F : ∀ base : Heap, K.In base → base.Ns mainGlobals mg → FnG P w K mg base k fa fd [x] sp) (hbind : ∀ (s : Shared) (u : Value), BindsTo s fd ⟨[u], []⟩ [(x, u)])
    (only : ∀ b u, H b = some u → b = a ∧ u = .frz { cls := .type "list", data := .seq vs.toArray } (.lst (ns.map V.int)) ∧ K.lookup a = none)
    (hok : HOk P w H s₁.heap) (hsp : sp [.ref a] H (fun v _ => v = .bl true) E0) :
    codeAny (model P w) callerA (.call (.ref fa) ⟨[.ref a], []⟩) (fun r s' => r = .ok (.ret (.bool true)) ∧ OldK s₁.heap s'.heap ∧ s'.os = s₁.os ∧ AllBare s'.gens) s₁ := by
  have free : ∀ {b : Addr} {o : Obj} {es : Array DictEntry} {ep : Nat}, s₁.heap.get? b = some o → o.data = .dict es ep → H b = none := by
    intro b o es ep e d
    cases q : H b with
    | none => rfl
    | some u =>
      obtain ⟨rfl, _, _⟩ := only b u q
      rw [ha] at e
      cases e
      exact nomatch d
  have kept : ∀ {b : Addr} {m : Str → Option Value}, s₁.heap.Ns b m → (hidT s₁.heap H).Ns b m := by
    rintro b m ⟨o, es, ep, e, d, r⟩
    exact ⟨o, es, ep, hidT_get e (free e d), d, r⟩
  have kin : K.In (hidT s₁.heap H) := by
    intro b o e
    refine hidT_get (KX b o e) ?_
    cases q : H b with
    | none => rfl
    | some u =>
      obtain ⟨rfl, _, no⟩ := only b u q
      rw [no] at e
      cases e
  have lim : (hidT s₁.heap H).NoLimit := by
    obtain ⟨mc, h1, h2⟩ := hlim
    exact ⟨mc, kept h1, h2⟩
  have start : Env0 P w K mg (hidT s₁.heap H) callerA [] s₁ H := by
    refine ⟨rfl, ⟨kin, kept hns, ⟨mb, kept hb, hbb⟩, lim⟩, fun b o e => of_hidT e, Nat.le_of_eq (hidT_size _ _), trivial, fun b z => ?_, hok, .of_eq hg⟩
    exact absurd (show b ∈ ([] : List Addr) from z) (by simp)
  have run := (F _ kin (kept hns)).run callerA [] s₁ H ⟨[.ref a], []⟩ [.ref a] [.ref a] _ hr rfl start (hbind s₁ (.ref a)) (.cons rfl .nil) hsp
  refine codeAny_mono run fun r s' h => ?_
  match r, h with
  | .error e, h => exact False.elim h
  | .ok .next, h => exact False.elim h
  | .ok .brk, h => exact False.elim h
  | .ok .cont, h => exact False.elim h
  | .ok (.ret u), ⟨v, H', os, bare, un, hok', r', q⟩ =>
    subst q
    obtain rfl : u = Value.bool true := r'
    refine ⟨rfl, OldK.of_keep fun b o e => ?_, os, bare⟩
    cases q : H b with
    | none => exact un.keep b o e q (by intro z; exact absurd (show b ∈ ([] : List Addr) from z) (by simp)) (by simp)
    | some u =>
      obtain ⟨rfl, rfl, _⟩ := only b u q
      have stays := (hok' b _ (un.frzs b _ _ q)).1
      rw [ha] at e
      cases e
      exact stays
theorem walk_ofG {l : PySem.W.OpenLaw} {n k : Nat} {q : Program} {loose : List Str} {XP : (Str → Option Value) → Heap → Prop} {YP : World → Heap → Prop} {d : DefRec} {K : Params → PySem.W.Frag} {sp : PySem.W.Frag → Sp} {x : Str}
    (hn : l.most = some n) (hn2 : n ≤ sizeLine) (hdf : d.params.defaults = []) (hr : Room k callerA)
    (hY : ∀ (w : World) (h : Heap), YP w h → (K w.params).In h)
    (F : ∀ (w : World) (mg : Str → Option Value) (fa : Addr) (h : Heap), (K w.params).In h → h.Ns mainGlobals mg → mg d.name = some (.ref fa) →
      ∃ fd : FuncData, (∀ (s : Shared) (u : Value), BindsTo s fd ⟨[u], []⟩ [(x, u)]) ∧
        ∀ base : Heap, (K w.params).In base → base.Ns mainGlobals mg → FnG l.prog w (K w.params) mg base k fa fd [x] (sp (K w.params)))
    (hsp : ∀ (K : PySem.W.Frag) (H : Hp) (a : Addr) (ns : List Int), ns.length ≤ n → (∀ b, b ≠ a → H b = none) → SqL K H a (ns.map V.int) → sp K [.ref a] H (fun v _ => v = .bl true) E0) :
    PySem.W.WalkO q loose XP YP l.row.toRowW d [] (fun f vs => PySem.call f vs) := by
  refine Att.attach_call hn hdf fun w s₀ s₁ mg mb fa o pm cd doc a vs ns G Y ho hd hcd hmg hobj hints hlen hg => ?_
  have KX := hY w _ Y
  obtain ⟨fd, hb, hF⟩ := F w mg fa _ KX G.T.g hmg
  have rel := vals_ints hints
  have lenV := hints.length
  cases hk : (K w.params).lookup a with
  | some o =>
    have e := KX a o hk
    rw [hobj] at e
    cases e
    refine end_of (H := fun _ => none) (ns := ns) KX G.T.g G.T.b G.T.builtins G.T.nolimit hg hobj hr hF hb (fun b u z => nomatch z) (fun b u z => nomatch z) (hsp _ _ a ns hlen (fun _ _ => rfl) ?_)
    exact .inr ⟨_, vs.toArray, _, hk, rfl, rfl, rfl, by rw [List.size_toArray, lenV]; exact Nat.le_trans hlen hn2, by simpa using rel⟩
  | none =>
    have at_a : scriptHp a vs ns a = some (.frz { cls := .type "list", data := .seq vs.toArray } (.lst (ns.map V.int))) := if_pos rfl
    have off : ∀ b, b ≠ a → scriptHp a vs ns b = none := fun b hb => if_neg hb
    refine end_of (H := scriptHp a vs ns) (ns := ns) KX G.T.g G.T.b G.T.builtins G.T.nolimit hg hobj hr hF hb (fun b u z => ?_) (fun b u z => ?_) (hsp _ _ a ns hlen off (.inl (.inr ⟨_, at_a⟩)))
    · by_cases hb : b = a
      · subst hb
        rw [at_a] at z
        exact ⟨rfl, (Option.some.inj z).symm, hk⟩
      · rw [off b hb] at z
        cases z
    · by_cases hb : b = a
      · subst hb
        rw [at_a] at z
        cases z
        exact ⟨hobj, by rw [List.length_map]; exact Nat.le_trans hlen hn2, vs, _, rel, hobj⟩
      · rw [off b hb] at z
        cases z
end Own

namespace Own
open PySem PySem.Spec PyProof.Rows L2

/-! ### X() of an own exception class without __init__ -/
section
variable {X : Cx} {C : Addr} {bmB : List Value} {B newId initId : String} {x : Str} {p pos : Pos}
theorem pmk_bare (F : ExcBaseFacts B newId initId bmB) (q : PySem.W.excIn X.K C bmB newId = true) (gC : X.mg x = some (.ref C)) (kC : PySem.W.keepIn X.K (.ref C) = true) (r : Raises X (.ref C)) (hg : Gl X x)
    (hdb : (x == ("__debug__" : Str)) = false := by decide) : PMk X (.Call (.Name x p) [] [] pos) (fun _ H Q => Q (.ref C) none H) := by
  intro pins s σ H Q I h
  obtain ⟨bm, N, nm, qn, bs, hdct, sn, sub, ab, col, dd, k0, k1, k2, k3, k5, mN, hC, hN, hni, T⟩ := exc_obj I.kIn q
  refine wpAny_Call_Name_kw (ld_glob I hg gC (PySem.W.callWith_K0 I.kIn kC ?_) hdb)
  exact wpAny_call_exc_subT F T hC hN hni (fun h' e hm => mk_of I hm r h (I.hok.gone hm.new)) (Nat.zero_le _)
end

/-! ### len( .. ) of a list made on the way, and other small words -/
theorem fresh_back {H H' : Hp} {p : Addr} (e : Same H H') (h : H' p = none) : H p = none := e.free h
theorem same_upd {H : Hp} {p : Addr} (o : HO) (h : H p = none) : Same H (upd H p o) := fun b u q => by
  rw [upd_ne (ne_of_none q h)]
  exact q
theorem same_upd2 {H H' : Hp} {p : Addr} (o : HO) (e : Same H H') (h : H p = none) : Same H (upd H' p o) := fun b u q => by
  rw [upd_ne (ne_of_none q h)]
  exact e b u q
/-- a statement, told by what holds behind it -/
theorem seq_cut {t u : TS} {D : Ends} {σ : L2.St} {H : Hp} (Z : L2.St → Hp → Prop) (h : ∀ N : L2.St → Hp → Prop, (∀ σ' H', Z σ' H' → N σ' H') → t { D with nx := N } σ H) (hz : ∀ σ' H', Z σ' H' → u D σ' H') : tSeq t u D σ H := h (u D) hz
/-- an expression, told by what holds of its value -/
theorem ex_cut {te : TE} {σ : L2.St} {H : Hp} {Q : VK} (Z : V → Hp → Prop) (h : ∀ Q' : VK, (∀ v H', Z v H' → Q' v H') → te σ H Q') (hz : ∀ v H', Z v H' → Q v H') : te σ H Q := h Q hz
/-- an if, told by what holds of its test -/
theorem if_cut {c : TT} {t u : TS} {D : Ends} {σ : L2.St} {H : Hp} (Z : Bool → Hp → Prop) (h : ∀ Q' : Bool → Hp → Prop, (∀ b H', Z b H' → Q' b H') → c σ H Q') (ht : ∀ H', Z true H' → t D σ H') (hf : ∀ H', Z false H' → u D σ H') : tIfS c t u D σ H := by
  refine h _ fun b H' z => ?_
  cases b with
  | true => exact iteT (ht H' z)
  | false => exact iteF (hf H' z)
theorem ifExp_cut {c : TT} {ta tb : TE} {σ : L2.St} {H : Hp} {Q : VK} (Z : Bool → Hp → Prop) (h : ∀ Q' : Bool → Hp → Prop, (∀ b H', Z b H' → Q' b H') → c σ H Q') (ht : ∀ H', Z true H' → ta σ H' Q) (hf : ∀ H', Z false H' → tb σ H' Q) : tIf c ta tb σ H Q := by
  refine h _ fun b H' z => ?_
  cases b with
  | true => exact iteT (ht H' z)
  | false => exact iteF (hf H' z)
/-! parts of lists -/
theorem cut_to {xs : List V} {k : Int} (h0 : 0 ≤ k) (h1 : k ≤ xs.length) : cutV xs none (some k) = xs.take k.toNat := by
  obtain ⟨n, rfl⟩ : ∃ n : Nat, k = n := ⟨k.toNat, by omega⟩
  unfold cutV
  rw [HT.sIx_none, HT.sIx_nat, List.drop_zero]
  congr 1
  omega
theorem cut_from {xs : List V} {k : Int} (h0 : 0 ≤ k) (h1 : k ≤ xs.length) : cutV xs (some k) none = xs.drop k.toNat := by
  obtain ⟨n, rfl⟩ : ∃ n : Nat, k = n := ⟨k.toNat, by omega⟩
  unfold cutV
  rw [HT.sIx_none, HT.sIx_nat]
  have e : min n xs.length = n := by omega
  rw [e, Int.toNat_natCast]
  exact List.take_of_length_le (by rw [List.length_drop]; omega)
theorem cut_ints (ms : List Int) (lo hi : Option Int) : ∃ ls : List Int, cutV (ms.map V.int) lo hi = ls.map V.int ∧ ls.length ≤ ms.length := by
  unfold cutV
  refine ⟨(ms.drop (HT.sIx (ms.map V.int).length 0 lo)).take (HT.sIx (ms.map V.int).length (ms.map V.int).length hi - HT.sIx (ms.map V.int).length 0 lo), ?_, ?_⟩
  · rw [List.map_take, List.map_drop]
  · rw [List.length_take, List.length_drop]
    omega
end Own

namespace Own
open PySem PySem.Spec PyProof.Rows L2

/-! ### trees of trips -/
inductive Tr where
  | b (i : Int)
  | t (k : Int) (ps : List Tr)
mutual
def Tr.go (L : List Int) : Tr → Bool
  | .b i => decide (i ∈ L)
  | .t k ps => decide (k ≤ (Tr.cnt L ps : Int))
def Tr.cnt (L : List Int) : List Tr → Nat
  | [] => 0
  | p :: r => (if p.go L = true then 1 else 0) + Tr.cnt L r
end
mutual
def Tr.held : Tr → List Int
  | .b i => [i]
  | .t _ ps => Tr.helds ps
def Tr.helds : List Tr → List Int
  | [] => []
  | p :: r => p.held ++ Tr.helds r
end
mutual
def Tr.deep : Tr → Nat
  | .b _ => 0
  | .t _ ps => Tr.deeps ps + 1
def Tr.deeps : List Tr → Nat
  | [] => 0
  | p :: r => max p.deep (Tr.deeps r)
end
mutual
def Tr.d : Tr → PyData
  | .b i => .int i
  | .t k ps => .tuple [.int k, .tuple (Tr.ds ps)]
def Tr.ds : List Tr → List PyData
  | [] => []
  | p :: r => p.d :: Tr.ds r
end
def Tr.isTrip : Tr → Bool
  | .b _ => false
  | .t _ _ => true
/-! how a tree lies in the heap -/
mutual
inductive At (H : Hp) : V → Tr → Prop
  | b (i : Int) : At H (.int i) (.b i)
  | t {a p : Addr} {k : Int} {vs : List V} {ps : List Tr} : H a = some (.tup [.int k, .ref p]) → H p = some (.tup vs) → Ats H vs ps → vs.length ≤ 1000 → At H (.ref a) (.t k ps)
inductive Ats (H : Hp) : List V → List Tr → Prop
  | nil : Ats H [] []
  | cons {v : V} {t : Tr} {vs : List V} {ts : List Tr} : At H v t → Ats H vs ts → Ats H (v :: vs) (t :: ts)
end
/-- the tuples are kept -/
def KT (H H' : Hp) : Prop := ∀ a xs, H a = some (.tup xs) → H' a = some (.tup xs)
theorem KT.of {H H' : Hp} (e : Same H H') : KT H H' := fun a xs h => e a _ h
theorem KT.trans {H H1 H2 : Hp} (a : KT H H1) (b : KT H1 H2) : KT H H2 := fun c xs h => b c xs (a c xs h)
mutual
theorem At.mono {H H' : Hp} (e : KT H H') : ∀ {v : V} {t : Tr}, At H v t → At H' v t
  | _, _, .b i => .b i
  | _, _, .t h1 h2 h3 h4 => .t (e _ _ h1) (e _ _ h2) (Ats.mono e h3) h4
theorem Ats.mono {H H' : Hp} (e : KT H H') : ∀ {vs : List V} {ts : List Tr}, Ats H vs ts → Ats H' vs ts
  | _, _, .nil => .nil
  | _, _, .cons h1 h2 => .cons (At.mono e h1) (Ats.mono e h2)
end
theorem At.same {H H' : Hp} (e : Same H H') {v : V} {t : Tr} (h : At H v t) : At H' v t := h.mono (KT.of e)
theorem Ats.same {H H' : Hp} (e : Same H H') {vs : List V} {ts : List Tr} (h : Ats H vs ts) : Ats H' vs ts := h.mono (KT.of e)
theorem Ats.length {H : Hp} : ∀ {vs : List V} {ts : List Tr}, Ats H vs ts → vs.length = ts.length
  | _, _, .nil => rfl
  | _, _, .cons _ h2 => by rw [List.length_cons, List.length_cons, Ats.length h2]
theorem Ats.get {H : Hp} : ∀ {vs : List V} {ts : List Tr} {i : Nat} {v : V}, Ats H vs ts → vs[i]? = some v → ∃ t, ts[i]? = some t ∧ At H v t
  | _, _, _, _, .nil, e => by simp at e
  | _, _, 0, _, .cons h1 _, e => by
    simp at e
    subst e
    exact ⟨_, rfl, h1⟩
  | _, _, i + 1, _, .cons _ h2, e => by
    obtain ⟨t, e1, h⟩ := Ats.get (i := i) h2 (by simpa using e)
    exact ⟨t, by simpa using e1, h⟩
theorem Ats.append {H : Hp} : ∀ {vs ws : List V} {ts us : List Tr}, Ats H vs ts → Ats H ws us → Ats H (vs ++ ws) (ts ++ us)
  | _, _, _, _, .nil, h => h
  | _, _, _, _, .cons h1 h2, h => .cons h1 (h2.append h)
mutual
theorem At.dp {K : PySem.W.Frag} {H : Hp} : ∀ {v : V} {t : Tr}, At H v t → Dp K H v t.d
  | _, _, .b i => by
    rw [Tr.d]
    exact .int i
  | _, _, .t h1 h2 h3 _ => by
    rw [Tr.d]
    exact .tup (SqT.of h1) (.cons (.int _) (.cons (.tup (SqT.of h2) (Ats.dp h3)) .nil))
theorem Ats.dp {K : PySem.W.Frag} {H : Hp} : ∀ {vs : List V} {ts : List Tr}, Ats H vs ts → DpAll K H vs (Tr.ds ts)
  | _, _, .nil => by
    rw [Tr.ds]
    exact .nil
  | _, _, .cons h1 h2 => by
    rw [Tr.ds]
    exact .cons h1.dp h2.dp
end
theorem cnt_snoc (L : List Int) : ∀ (ps : List Tr) (p : Tr), Tr.cnt L (ps ++ [p]) = Tr.cnt L ps + (if p.go L = true then 1 else 0)
  | [], p => by simp [Tr.cnt]
  | q :: r, p => by
    rw [List.cons_append, Tr.cnt, Tr.cnt, cnt_snoc L r p]
    omega
theorem take_snoc {α : Type} {l : List α} {i : Nat} {x : α} (h : l[i]? = some x) : l.take (i + 1) = l.take i ++ [x] := by
  rw [List.take_succ, h]
  rfl
theorem deep_get : ∀ {ps : List Tr} {i : Nat} {p : Tr}, ps[i]? = some p → p.deep ≤ Tr.deeps ps
  | [], _, _, h => by simp at h
  | q :: r, 0, p, h => by
    simp at h
    subst h
    rw [Tr.deeps]
    omega
  | q :: r, i + 1, p, h => by
    have := deep_get (ps := r) (i := i) (p := p) (by simpa using h)
    rw [Tr.deeps]
    omega
theorem helds_snoc : ∀ (ps : List Tr) (p : Tr), Tr.helds (ps ++ [p]) = Tr.helds ps ++ p.held
  | [], p => by simp [Tr.helds]
  | q :: r, p => by
    rw [List.cons_append, Tr.helds, Tr.helds, helds_snoc r p, List.append_assoc]
theorem deeps_snoc : ∀ (ps : List Tr) (p : Tr), Tr.deeps (ps ++ [p]) = max (Tr.deeps ps) p.deep
  | [], p => by simp [Tr.deeps]
  | q :: r, p => by
    rw [List.cons_append, Tr.deeps, Tr.deeps, deeps_snoc r p]
    omega
/-- a thing of a tree's kind: whether it is a tuple -/
theorem At.kind {K : PySem.W.Frag} {H : Hp} {v : V} {t : Tr} (h : At H v t) : ∃ ty : String, TyX K H v (.type ty) ∧ kitB ty "tuple" = some t.isTrip ∧ kitB ty "int" = some (!t.isTrip) := by
  cases h with
  | b i => exact ⟨"int", .base (.int i), (by decide +kernel : kitB "int" "tuple" = some false), (by decide +kernel : kitB "int" "int" = some true)⟩
  | t h1 _ _ _ => exact ⟨"tuple", .base (.tup h1), (by decide +kernel : kitB "tuple" "tuple" = some true), (by decide +kernel : kitB "tuple" "int" = some false)⟩
theorem in_ints (i : Int) (L : List Int) : inV (.int i) (L.map V.int) = decide (i ∈ L) := by
  unfold inV
  rw [List.any_map]
  induction L with
  | nil => simp
  | cons a L ih =>
    rw [List.any_cons, ih]
    by_cases h : a = i
    · subst h
      simp [eqV]
    · have : ¬ i = a := fun q => h q.symm
      simp [eqV, h, this]
theorem flat_ints (L : List Int) : (L.map V.int).all flatV = true := by
  rw [List.all_map, List.all_eq_true]
  intro x _
  rfl
end Own

namespace Own
open PySem PySem.Spec PyProof.Rows L2
/-! ### how long a repr is at most -/
mutual
def cost : PyData → Nat
  | .none => 4
  | .bool _ => 5
  | .int _ => 1922
  | .str x => (reprText x).length
  | .list xs => costs xs + 4
  | .tuple xs => costs xs + 4
  | .dict _ => 0
def costs : List PyData → Nat
  | [] => 0
  | x :: r => cost x + 2 + costs r
end
theorem join_short (ts : List Str) : (Str.join ", " ts).length ≤ piled ts := by
  by_cases h : ts = []
  · subst h
    decide
  · have := join_length_add ts h
    omega
theorem list_short (ts : List Str) : (listText ts).length ≤ piled ts + 4 := by
  rw [listText_eq_join, strLen_append, strLen_append]
  have e1 : ((("[" : String) : Str)).length = 1 := rfl
  have e2 : ((("]" : String) : Str)).length = 1 := rfl
  have := join_short ts
  omega
theorem tuple_short (ts : List Str) : (tupleText ts).length ≤ piled ts + 4 := by
  unfold tupleText
  rw [strLen_append, strLen_append]
  have e1 : ((("(" : String) : Str)).length = 1 := rfl
  have e3 : (((if ts.length == 1 then ",)" else ")" : String) : Str)).length ≤ 2 := by split <;> decide
  have := join_short ts
  omega
mutual
theorem shown_short : ∀ d : PyData, d.showable = true → d.hasDict = false → d.shown.length ≤ cost d
  | .none, _, _ => by
    rw [PyData.shown, cost]
    decide
  | .bool b, _, _ => by
    rw [PyData.shown, cost]
    cases b <;> decide
  | .int i, h, _ => by
    rw [PyData.shown, cost]
    have h' : i.natAbs.log2 < 1920 := by simpa [PyData.showable] using h
    exact Nat.le_trans (int_text_len_1921 h') (by omega)
  | .str x, _, _ => by
    rw [PyData.shown, cost]
    exact Nat.le_refl _
  | .list xs, h, h2 => by
    rw [PyData.shown, cost]
    exact Nat.le_trans (list_short _) (Nat.add_le_add_right (showns_short xs (by simpa [PyData.showable] using h) (by simpa [PyData.hasDict] using h2)) 4)
  | .tuple xs, h, h2 => by
    rw [PyData.shown, cost]
    exact Nat.le_trans (tuple_short _) (Nat.add_le_add_right (showns_short xs (by simpa [PyData.showable] using h) (by simpa [PyData.hasDict] using h2)) 4)
  | .dict _, _, h2 => by simp [PyData.hasDict] at h2
theorem showns_short : ∀ xs : List PyData, PyData.showableAll xs = true → PyData.hasDictAll xs = false → piled (PyData.shownAll xs) ≤ costs xs
  | [], _, _ => by
    rw [PyData.shownAll, costs, piled_nil]
    omega
  | x :: r, h, h2 => by
    rw [PyData.shownAll, costs, piled_cons]
    simp only [PyData.showableAll, Bool.and_eq_true] at h
    simp only [PyData.hasDictAll, Bool.or_eq_false_iff] at h2
    have h3 := shown_short x h.1 h2.1
    have h4 := showns_short r h.2 h2.2
    omega
end
/-- data that repr shows -/
structure Shows (d : PyData) : Prop where
  able : d.showable = true
  nod : d.hasDict = false
  low : d.depth ≤ 60
  short : d.shown.length ≤ sizeLine
theorem shows_mk {d : PyData} (a : d.showable = true) (n : d.hasDict = false) (l : d.depth ≤ 60) (c : cost d ≤ 16000000) : Shows d :=
  ⟨a, n, l, Nat.le_trans (shown_short d a n) (Nat.le_trans c (by decide))⟩
theorem repr_go {K : PySem.W.Frag} {H : Hp} {v : V} {d : PyData} {Q : VK} (h : Dp K H v d) (s : Shows d) (q : Q (.str d.shown) H) : rRepr K [v] H Q := ⟨v, d, rfl, h, s.able, s.nod, s.low, s.short, q⟩
/-- ints of small size -/
theorem able_int {i : Int} (h : i.natAbs < 2 ^ 64) : PyData.showable (.int i) = true := by
  rw [PyData.showable]
  refine decide_eq_true ?_
  by_cases h0 : i.natAbs = 0
  · rw [h0]
    decide
  · exact Nat.lt_of_lt_of_le ((Nat.log2_lt h0).mpr h) (by decide)
theorem able_ints : ∀ {M : List Int}, (∀ x ∈ M, x.natAbs < 2 ^ 64) → PyData.showableAll (M.map PyData.int) = true
  | [], _ => by simp [PyData.showableAll]
  | x :: M, h => by
    rw [List.map_cons, PyData.showableAll, able_int (h x List.mem_cons_self), able_ints fun y hy => h y (List.mem_cons_of_mem _ hy)]
    rfl
theorem nod_ints : ∀ M : List Int, PyData.hasDictAll (M.map PyData.int) = false
  | [] => by simp [PyData.hasDictAll]
  | x :: M => by
    rw [List.map_cons, PyData.hasDictAll, nod_ints M, PyData.hasDict]
    rfl
theorem costs_ints : ∀ M : List Int, costs (M.map PyData.int) = 1924 * M.length
  | [] => by simp [costs]
  | x :: M => by
    rw [List.map_cons, costs, cost, costs_ints M, List.length_cons]
    omega
end Own

namespace Own
open PySem PySem.Spec PyProof.Rows L2

/-! ### enumerate(v) of anything that begins -/
section
set_option maxHeartbeats 4000000 in
theorem meets_enumerate_newB1 {v : Value} {o : Obj} {H : Heap → Prop} (B : Begins v o H) :
    Meets (Builtin.«enumerate.__new__» ⟨[.type "enumerate", v], []⟩) (fun _ R s => H s.heap ∧
      R (.ok (.ret (.ref (s.heap.push o).objs.size))) { s with heap := (s.heap.push o).push { cls := .type "enumerate", data := .fields #[.none, .bool false, .ref s.heap.objs.size, rawInt 0, .none, .none] } }) :=
  .of_wp fun prog w A R s h => by
    obtain ⟨hp, g, d, tk, os⟩ := s; obtain ⟨h1, h⟩ := h
    have hsub := sub_enumerate
    have q1 : ∀ {A' : Around} {E : Value → Shared → Prop} {Q : Value → Shared → Prop}, Q (.ref hp.objs.size) ⟨hp.push o, g, d, tk, os⟩ → wpAny (model prog w) A' (pyIter v) Q E ⟨hp, g, d, tk, os⟩ :=
      fun q => B.iter prog w _ _ ⟨hp, g, d, tk, os⟩ _ h1 q
    wp_walk using q1
    refine wpAny_stack_any fun st => wpAny_pure ?_
    split
    · rename_i c _ _ _ _ _
      cases (c == Value.type "enumerate")
      · wp_walk using q1
        exact ⟨_, rfl, h⟩
      · wp_walk using q1
        exact ⟨_, rfl, h⟩
    · wp_walk using q1
      exact ⟨_, rfl, h⟩
variable {prog : Program} {w : World} {A : Around} {E : Value → Shared → Prop} {s : Shared}
theorem enum_begins1 {v : Value} {o : Obj} {H : Heap → Prop} {Q : Value → Shared → Prop} (B : Begins v o H) (h1 : H s.heap)
    (h : ∀ h', IsEnum h' (s.heap.objs.size + 1) s.heap.objs.size 0 .none → h'.get? s.heap.objs.size = some o → h'.objs.size = s.heap.objs.size + 2 →
      (∀ b o, s.heap.get? b = some o → h'.get? b = some o) → Q (.ref (s.heap.objs.size + 1)) { s with heap := h' }) :
    wpAny (model prog w) A (call (.type "enumerate") [v]) Q E s := by
  refine callType_new F.called_enumerate (by decide) (F.typeCall_enumerate_1 _) (F.newCall_enumerate_1 _) (fun obj => F.args_object_init_2 obj _) F.entry_enumerate_new
    (meets_enumerate_newB1 B) ⟨h1, ?_⟩
  have hz : (s.heap.push o).objs.size = s.heap.objs.size + 1 := Heap.size_push ..
  show _ ∧ _
  rw [hz]
  have he : IsEnum ((s.heap.push o).push { cls := .type "enumerate", data := .fields #[.none, .bool false, .ref s.heap.objs.size, rawInt 0, .none, .none] }) (s.heap.objs.size + 1) s.heap.objs.size 0 .none := by
    have := Heap.get?_push_size (s.heap.push o) (o := { cls := .type "enumerate", data := .fields #[.none, .bool false, .ref s.heap.objs.size, rawInt 0, .none, .none] }) rfl
    rw [hz] at this; exact this
  refine ⟨⟨_, he, rfl⟩, h _ he (Heap.get?_push_of_some _ (Heap.get?_push_size _ B.free)) (by rw [Heap.size_push, hz]) fun b o x => Heap.get?_push_of_some _ (Heap.get?_push_of_some _ x)⟩
end
/-- the tuple at a, each item in a new pair -/
def IteT (K : PySem.W.Frag) (a : Addr) : It :=
  ⟨fun i H => ∃ (xs : List V) (x : V), SqT K H a xs ∧ xs[i]? = some x, fun i H v H' => ∃ T x, v = .ref T ∧ H T = none ∧ H' = upd H T (.tup [.int (i : Nat), x]) ∧ ∀ xs, SqT K H a xs → xs[i]? = some x, fun i H => ∃ xs : List V, SqT K H a xs ∧ xs.length ≤ i⟩
theorem turn_enumT {P : Program} {w : World} {K : PySem.W.Frag} {elts : List Expr} {kk : Nat} {tpos : Pos} (a e it : Addr) (hai : a ≠ it) (hea : e ≠ a) :
    Turn P w K (.Tuple elts kk tpos) (IteT K a) [e, it] e (fun i h => (∃ old, IsEnum h e it ((i : Nat) : Int) old) ∧ h.IsTupleIter it a i ∧ e ≠ it) where
  mem := by simp
  obj := fun i h st b hb => by
    obtain ⟨⟨old, he⟩, ⟨o, ho, hc, hd⟩, _⟩ := st
    have e' : b = e ∨ b = it := by simpa using hb
    rcases e' with z | z
    · rw [z]; exact ⟨_, he, fun v q => nomatch q⟩
    · rw [z]; exact ⟨o, ho, fun v q => by rw [hd] at q; cases q⟩
  keep := fun i h h' st k => let ⟨⟨old, he⟩, hi, hne⟩ := st; ⟨⟨old, k e (by simp) _ he⟩, hi.at fun o q => k it (by simp) o q, hne⟩
  item := by
    intro X hP hw hK hc i pins s σ H E I hf st hg
    subst hP hw hK
    obtain ⟨⟨old, he⟩, hit, hne⟩ := st
    obtain ⟨xs, x, hq, hx⟩ := hg
    obtain ⟨its, rv, p, hz⟩ := I.tuple hq
    obtain ⟨u, hu, ru⟩ := rv.get hx
    have hel : e < s.heap.objs.size := Heap.lt_size he
    have hil : it < s.heap.objs.size := by obtain ⟨_, q, _⟩ := hit; exact Heap.lt_size q
    have D := Draws.tuple (prog := X.prog) (w := X.w) (A := X.A.in1) (I.ok.hd hc) it a hai its.toArray
    have hil' : i < its.toArray.size := by
      rw [List.size_toArray]
      exact (List.getElem?_eq_some_iff.mp hu).1
    refine wpAny_pyNext_enum_itemD D he ⟨hit, show s.heap.IsTuple a its.toArray from p⟩ hil' hne (by simp [hne, hea]) fun x' h' tk hx' ho hit' hT hsz hk => ?_
    have exu : x' = u := by
      have q : its.toArray[i]? = some u := by simpa using hu
      rw [q] at hx'
      exact (Option.some.inj hx').symm
    subst exu
    refine ⟨_, rfl, wpAny_letOwnedTupleGo_enum (s := { s with heap := h', toks := tk + 1 }) ho fun h'' he' sb => ?_⟩
    have hT2 : h''.get? s.heap.objs.size = some { cls := .type "tuple", data := .seq #[.int i tk, x'] } := (sb.2 _ (Nat.ne_of_gt hel)).trans hT
    have new : ObjOk X.prog X.w (upd H s.heap.objs.size (.tup [.int (i : Nat), x])) h'' s.heap.objs.size (.tup [.int (i : Nat), x]) :=
      ⟨by show 2 ≤ sizeLine; decide, [.int i tk, x'], .cons ⟨_, rfl⟩ (.cons ru .nil), ⟨_, hT2, rfl, _, rfl⟩⟩
    have I1 : Inv X pins σ (upd H s.heap.objs.size (.tup [.int (i : Nat), x])) { s with heap := h'', toks := tk + 1 } :=
      I.turnedNew (ch := [e, it]) (fun b ob hb q => (sb.2 b (fun z => hb (by simp [z]))).trans (hk b ob (fun z => hb (by simp [z])) (fun z => hb (by simp [z])) q)) hf (Nat.le_refl _) new
    refine ⟨.ref s.heap.objs.size, _, I1, rfl, ⟨_, x, rfl, I.hok.fresh (Nat.le_refl _), rfl, fun ys hy => by rw [I.tuple_inj hy hq]; exact hx⟩, ⟨⟨x', ?_⟩, hit'.1.at fun o q => (sb.2 it (Ne.symm hne)).trans q, hne⟩, fun b hb => ?_⟩
    · have e1 : ((i + 1 : Nat) : Int) = (i : Int) + 1 := by omega
      rw [e1]; exact he'
    · have hb' : b < s.heap.objs.size := by
        have e' : b = e ∨ b = it := by simpa using hb
        rcases e' with z | z
        · rw [z]; exact hel
        · rw [z]; exact hil
      rw [upd_ne (Nat.ne_of_lt hb')]
      exact (hf b hb).1
  done := by
    intro X hP hw hK hc i pins s σ H E I hf st hg
    subst hP hw hK
    obtain ⟨⟨old, he⟩, hit, hne⟩ := st
    obtain ⟨xs, hq, hx⟩ := hg
    obtain ⟨its, rv, p, hz⟩ := I.tuple hq
    obtain ⟨f0, f1, f2, f3, f4, f5⟩ := hf it (by simp)
    have hl := rv.length
    have D : Draws X.prog X.w X.A.in1 it [it, a] 0 (fun i v => False) (fun _ h => h.IsTupleIter it a i ∧ h.IsTuple a its.toArray) :=
      { live := fun _ _ st => let ⟨o, ho, _⟩ := st.1; ⟨o, ho⟩
        frame := fun _ _ _ st hk => ⟨st.1.at fun o e => hk it (by simp) o e, st.2.at fun o e => hk a (by simp) o e⟩
        item := fun j s Q E hi st hQ => absurd hi (Nat.not_lt_zero _)
        done := fun s Q E st hE => wpAny_nextOf_tuple_end (I.ok.hd hc) st.1 st.2 (by simp; omega) hE }
    exact wpAny_pyNext_enum_endD (Q := _) D he ⟨hit, show s.heap.IsTuple a its.toArray from p⟩ fun h' eb => ⟨rfl, I.turned (t' := s.toks) (fun b o hb q => eb b o hb q) f0 f1 f3 f4 f5⟩
  self := fun A i s Q E st h => let ⟨⟨_, he⟩, _⟩ := st; wpAny_pyIter_enum he h
def iEnumT (K : PySem.W.Frag) (ta : TA) : TI := fun σ H R => ta σ H fun vs H1 => ∃ a xs, vs = [.ref a] ∧ SqT K H1 a xs ∧ R (IteT K a) H1
theorem pi_enumT {X : Cx} {e : Expr} {ta : TA} {p pos tpos : Pos} {elts : List Expr} {kk : Nat} (hg : Gl X "enumerate") (hm : X.mg "enumerate" = none) (ha : PA X [e] ta) (hs : starEach [e] X.env = [(false, eval e X.env)] := by rfl) :
    PI X (.Tuple elts kk tpos) (.Call (.Name "enumerate" p) [e] [] pos) (iEnumT X.K ta) := by
  refine ⟨fun pins s σ H R I h => ?_⟩
  refine Call_ (ld_blt I hg hm boot_enumerate (PyProof.Rows.callWith_type1 (thn (ha.run pos pins s σ H _ I h) fun us s1 ⟨vs, H1, I1, r1, q1⟩ => ?_) hs rfl))
  obtain ⟨a, xs, ex, hq, q⟩ := q1
  subst ex
  cases r1 with
  | cons r rr =>
    cases rr
    cases r
    obtain ⟨its, rv, p', hz⟩ := I1.tuple hq
    have hal : a < s1.heap.objs.size := by obtain ⟨_, z, _⟩ := p'; exact Heap.lt_size z
    refine enum_begins1 (begins_tuple a its.toArray) (show s1.heap.IsTuple a its.toArray from p') fun h' he hit hsz hk => wpAny_pyIter_enum he ?_
    have I2 : Inv X pins σ H1 { s1 with heap := h' } := I1.kept (t' := s1.toks) hk
    refine ⟨s1.heap.objs.size + 1, [s1.heap.objs.size + 1, s1.heap.objs.size], _, _, H1, rfl, I2, turn_enumT a (s1.heap.objs.size + 1) s1.heap.objs.size (Nat.ne_of_lt hal) (Nat.ne_of_gt (Nat.lt_succ_of_lt hal)), ⟨⟨.none, he⟩, ⟨_, hit, rfl, rfl⟩, Nat.succ_ne_self _⟩, fun b hb => ?_, q⟩
    have e' : b = s1.heap.objs.size + 1 ∨ b = s1.heap.objs.size := by simpa using hb
    have hle : s1.heap.objs.size ≤ b := by
      rcases e' with z | z
      · rw [z]; exact Nat.le_add_right _ _
      · rw [z]; exact Nat.le_refl _
    exact I1.fpOk hle (I1.hok.fresh hle)
theorem walk_enumT {K : PySem.W.Frag} {a : Addr} {xs : List V} : Walk (IteT K a) xs.length (fun H => SqT K H a xs) (YPair (fun i => some (.int (i : Nat))) (fun i => xs[i]?)) := by
  refine ⟨fun i _ hi q => ⟨xs, xs[i], q, by simp [hi]⟩, fun _ q => ⟨xs, q, Nat.le_refl _⟩, fun i H v H' _ q y => ?_⟩
  obtain ⟨T, x, h1, h2, h3, h4⟩ := y
  exact ⟨T, .int (i : Nat), x, h1, h2, h3, rfl, h4 xs q⟩

/-! ### sorted of bools -/
def bv : Value → Bool
  | .bool b => b
  | _ => false
def ltBv (v u : Value) : Bool := !bv v && bv u
theorem swo_bool : SrtO.Swo ltBv := by
  refine ⟨fun x y h => ?_, fun x y z h1 h2 => ?_⟩
  · unfold ltBv at *
    revert h
    cases bv x <;> cases bv y <;> simp
  · unfold ltBv at *
    revert h1 h2
    cases bv x <;> cases bv y <;> cases bv z <;> simp
theorem vals_bools : ∀ {bs : List Bool} {its : List Value}, Vals (bs.map V.bl) its → its = bs.map Value.bool
  | [], _, .nil => rfl
  | b :: bs, _, .cons r t => by
    cases r
    rw [vals_bools t]
    rfl
theorem bools_vals : ∀ bs : List Bool, Vals (bs.map V.bl) (bs.map Value.bool)
  | [] => .nil
  | b :: bs => .cons rfl (bools_vals bs)
section
variable {prog : Program} {w : World} {A : Around} {E : Value → Shared → Prop} {s : Shared}
theorem bool_cmp (bs : List Bool) : SrtO.Cmp prog w A s oneType' (fun p => p.1 ∈ bs.map Value.bool) (SrtO.lt2 ltBv) := by
  intro p q hm hm'
  obtain ⟨x, _, e⟩ := List.mem_map.mp hm
  obtain ⟨y, _, e'⟩ := List.mem_map.mp hm'
  show wpAny (model prog w) A (keyLt' oneType' p.1 q.1) (fun r s' => s' = s ∧ r = ltBv p.1 q.1) (fun _ _ => False) s
  rw [← e, ← e', keyLt'_oneType]
  refine PySem.W.oneLt_bool ⟨rfl, ?_⟩
  cases x <;> cases y <;> rfl
theorem bools_sortable {a : Addr} (bs : List Bool) (h2 : 2 ≤ (bs.map Value.bool).length) : SrtO.SortableO prog w A s a (bs.map Value.bool) ltBv := by
  intro h' _
  refine ⟨oneType', fun Q E hq => PySem.W.kas_kind (T := .type "bool") h2 (fun v hv => ?_) (by decide) (by decide) hq, bool_cmp bs⟩
  obtain ⟨x, _, rfl⟩ := List.mem_map.mp hv
  exact PySem.W.Looks.now
end
def rSortedB (K : PySem.W.Frag) : List V → Hp → VK → Prop := fun vs H Q => ∃ (a : Addr) (bs : List Bool), vs = [V.ref a] ∧ SqL K H a (bs.map V.bl) ∧
  ∀ (cs : List Bool) (p : Addr), cs.Perm bs → cs.Pairwise (fun x y => x = true → y = true) → H p = none → Q (.ref p) (upd H p (.lst (cs.map V.bl)))
theorem cr_sortedB {X : Cx} : CallR X (.builtin "sorted") (rSortedB X.K) := by
  intro pins s σ H vs us Q I r h
  obtain ⟨a, bs, rfl, hs, q⟩ := h
  obtain ⟨its, rv, hl, hz⟩ := I.list hs
  rw [Vals.ref1 r]
  have ei := vals_bools rv
  subst ei
  refine SrtO.sorted_ord swo_bool hl.isList (by rw [← rv.length]; exact hz) (fun h2 h₁ a' _ _ => bools_sortable bs h2) fun out h1 h2 => ?_
  have mem : ∀ v ∈ out, ∃ b, v = Value.bool b := fun v hv => by
    obtain ⟨x, _, e⟩ := List.mem_map.mp (h2.perm.mem_iff.mp hv)
    exact ⟨x, e.symm⟩
  have back : out = (out.map bv).map Value.bool := by
    rw [List.map_map]
    conv => lhs; rw [← List.map_id out]
    refine List.map_congr_left fun v hv => ?_
    obtain ⟨b, rfl⟩ := mem v hv
    rfl
  have hp : (out.map bv).Perm bs := by
    have z := h2.perm.map bv
    rw [List.map_map] at z
    have e : (bs.map (bv ∘ Value.bool)) = bs := by
      conv => rhs; rw [← List.map_id bs]
      exact List.map_congr_left fun b _ => rfl
    rw [e] at z
    exact z
  have hw : (out.map bv).Pairwise (fun x y => x = true → y = true) := by
    rw [List.pairwise_map]
    refine h1.imp fun {x y} h hx => ?_
    unfold ltBv at h
    revert h hx
    cases bv x <;> cases bv y <;> simp
  obtain ⟨ep, he'⟩ := PyProof.Rows.sortedAll_at s.heap (bs.map Value.bool) out.toArray
  have hlen : ((out.map bv).map V.bl).length ≤ sizeLine := by
    rw [List.length_map, hp.length_eq]
    rw [List.length_map] at hz
    exact hz
  have rv2 : Vals ((out.map bv).map V.bl) out := by
    have z := bools_vals (out.map bv)
    rw [← back] at z
    exact z
  exact ⟨.ref _, upd H (s.heap.objs.size + 1) (.lst ((out.map bv).map V.bl)), I.laid (t' := s.toks) (fun _ _ => PyProof.Rows.sortedAll_old) (Nat.le_succ _) ⟨hlen, out, ep, rv2, he'⟩, rfl, q _ _ hp hw (I.hok.fresh (Nat.le_succ _))⟩
/-! ### a target of several names within a block -/
theorem pg_tupK {X : Cx} {K : PySem.W.Frag} {es : List Expr} {k : Nat} {pos : Pos} {t : TGs} (n : Nat) (hK : X.K = K) (hc : X.calm = true) (h : PGs X es t)
    (hn : (assignEach es X.env).length = n := by rfl) (hst : (assignEach es X.env).findIdx? (·.1) = none := by rfl) : PG X (.Tuple es k pos) (gTup K n t) := by
  subst hK
  exact pg_tup hc h hn hst
end Own

namespace Own
open PySem PySem.Spec PyProof.Rows L2

/-! ### sorted(xs, key=f), f a def of the program, its keys whole numbers -/
/-- a heap without what lies at c -/
def hole (h : Heap) (c : Addr) : Heap := h.update c fun o => { o with data := .freed }
theorem hole_ne {h : Heap} {b c : Addr} (n : b ≠ c) : (hole h c).get? b = h.get? b := Heap.get?_update_ne _ _ _ _ n
theorem hole_at (h : Heap) (c : Addr) : (hole h c).get? c = none := by
  obtain ⟨objs, life⟩ := h
  show (match (objs.modify c fun o => { o with data := .freed })[c]? with
    | some ⟨_, _, .freed, _⟩ => none
    | o => o) = none
  rw [Array.getElem?_modify]
  cases objs[c]? with
  | none => simp
  | some o => simp
def rSortedF (K : PySem.W.Frag) (f : Addr) (sp : Sp) : List V → List V → Hp → VK → Prop := fun vs zs H Q => ∃ (a : Addr) (bs : List (V × Int)), vs = [V.ref a] ∧ zs = [V.ref f] ∧ SqL K H a (bs.map Prod.fst) ∧
  (∀ p ∈ bs, ∀ H1, Same H H1 → sp [p.1] H1 (fun v H2 => v = .int p.2 ∧ Same H1 H2) E0) ∧
  ∀ (q : Addr) (H1 : Hp), H q = none → H1 q = none → Same H H1 → Q (.ref q) (upd H1 q (.lst ((bs.mergeSort fun x y => decide (x.2 ≤ y.2)).map Prod.fst)))
theorem vals_each : ∀ {bs : List (V × Int)} {its : List Value}, Vals (bs.map Prod.fst) its → PySem.W.EachIs (fun v (p : V × Int) => L2.RelV p.1 v) its bs
  | [], _, .nil => .nil
  | _ :: _, _, .cons r t => .cons r (vals_each t)
theorem each_vals : ∀ {bs : List (V × Int)} {its : List Value}, PySem.W.EachIs (fun v (p : V × Int) => L2.RelV p.1 v) its bs → Vals (bs.map Prod.fst) its
  | _, _, .nil => .nil
  | _, _, .cons r t => .cons r (each_vals t)
theorem take_one {α : Type} {l : List α} {i : Nat} {x : α} (h : l[i]? = some x) : l.take (i + 1) = l.take i ++ [x] := by
  rw [List.take_succ, h]
  rfl
theorem each_more {R : Value → PyData → Prop} : ∀ {vs : List Value} {ds : List PyData} {v : Value} {d : PyData}, PySem.W.EachIs R vs ds → R v d → PySem.W.EachIs R (vs ++ [v]) (ds ++ [d])
  | _, _, _, _, .nil, h => .cons h .nil
  | _, _, _, _, .cons r t, h => .cons r (each_more t h)
section
variable {X : Cx} {k : Nat} {f : Addr} {fd : FuncData} {x : Str} {sp : Sp}
/-- the sort behind the list's being emptied -/
theorem keyed_rest (F : FnOk X.prog X.w X.K X.mg X.base CX0 k f fd [x] sp) (hr : Room (k + 2) X.A) (hb : Binds X.K fd [x] []) {pins : List (Addr × Obj)} {s : Shared} {σ : L2.St} {H : Hp} {d c : Addr} {ep : Nat} {bs : List (V × Int)} {its : List Value}
    {G : PySem.Fin → Shared → Prop} {E' : Value → Shared → Prop} (I : Inv X pins σ H s) (fc : ∀ H1 : Hp, H1 c = none → FpOk X pins H1 c) (fd' : ∀ H1 : Hp, H1 d = none → FpOk X pins H1 d) (hc : H c = none) (hd : H d = none)
    (oc : s.heap.get? c = some (seqObj "list" #[] 0)) (od : s.heap.get? d = some (seqObj "list" #[] ep)) (hcd : c ≠ d) (each : PySem.W.EachIs (fun v (p : V × Int) => L2.RelV p.1 v) its bs) (hzl : its.length ≤ sizeLine)
    (turn : ∀ p ∈ bs, ∀ H1, Same H H1 → sp [p.1] H1 (fun v H2 => v = .int p.2 ∧ Same H1 H2) E0)
    (done : ∀ (s' : Shared) (H1 : Hp), Same H H1 → H1 d = none → Inv X pins σ (upd H1 d (.lst ((bs.mergeSort fun x y => decide (x.2 ≤ y.2)).map Prod.fst))) s' → G (.done (.ret .none)) s') :
    wpAny (model X.prog X.w) X.A.in1.in1 (PyProof.Rows.ksk_rest d (.ref f) false its.toArray ep (.ref c)) G E' s := by
  have hlen := each.length
  have ncs : c ∉ X.fs := (fc H hc).2.2.1
  have nds : d ∉ X.fs := (fd' H hd).2.2.1
  unfold PyProof.Rows.ksk_rest
  refine wpAny_bind (wpAny_rule ?_)
  rw [List.forIn_toArray]
  refine wpAny_bind (PyProof.Rows.ksk_fold (fun j s' => ∃ (H1 : Hp) (kA : Array Value) (n : Nat), Inv X pins σ H1 s' ∧ Same H H1 ∧ H1 c = none ∧ H1 d = none ∧ s'.heap.get? c = some (seqObj "list" kA n) ∧ s'.heap.get? d = some (seqObj "list" #[] ep) ∧
    PySem.W.EachIs (fun v (n : PyData) => ∃ i t, v = Value.int i t ∧ n = .int i) kA.toList ((bs.take j).map fun p => PyData.int p.2)) its 0 s ⟨H, #[], 0, I, Same.refl H, hc, hd, oc, od, .nil⟩ ?_ ?_)
  · rintro j v s' hv ⟨H1, kA, n, I1, e1, c1, d1, oc1, od1, ks⟩
    rw [Nat.zero_add] at ks ⊢
    have hj : j < bs.length := by rw [← hlen]; exact (List.getElem?_eq_some_iff.mp hv).1
    obtain ⟨p, hp⟩ : ∃ p, bs[j]? = some p := ⟨_, List.getElem?_eq_getElem hj⟩
    have rp : L2.RelV p.1 v := each.zip (v, p) (List.mem_of_getElem? (i := j) (by rw [List.getElem?_zip_eq_some]; exact ⟨hv, hp⟩))
    have kl : kA.size = j := by
      have z := ks.length
      rw [Array.length_toList, List.length_map, List.length_take] at z
      omega
    have b := hb s' [v] I1.kIn rfl
    rw [List.append_nil] at b
    refine wpAny_bind (wpAny_attempt (wpAny_call (codeAny_mono (F.run X.A.in1.in1 X.stack s' H1 ⟨[v], []⟩ [v] [p.1] _ E0 hr.in1.in1 I1.env0.in1.in1 b (.cons rp .nil) (turn p (List.mem_of_getElem? hp) H1 e1)) fun res s2 hq => ?_)))
    match res, hq with
    | .ok .next, hq => exact hq.elim
    | .ok .brk, hq => exact hq.elim
    | .ok .cont, hq => exact hq.elim
    | .error _, hq => exact hq.elim
    | .ok (.ret u), hq =>
      obtain ⟨y, H2, os, bare, un, hok, ry, ey, e2⟩ := hq
      subst ey
      obtain ⟨t, rfl⟩ : ∃ t, u = Value.int p.2 t := ry
      have I2 : Inv X pins σ H2 s2 := I1.call' os un hok bare fun b z => absurd z (by simp)
      have off : ∀ b, b ≠ X.env.locals → b ∉ X.fs → b ∉ frs X.stack := fun b n1 n2 z => (List.mem_cons.mp (I1.stkSub b z)).elim n1 n2
      have oc2 := un.keep c _ oc1 c1 (off c (fc H hc).2.1 ncs) (by simp)
      have od2 := un.keep d _ od1 d1 (off d (fd' H hd).2.1 nds) (by simp)
      have c2 := un.free c _ oc1 c1 (by simp)
      have d2 := un.free d _ od1 d1 (by simp)
      obtain ⟨m, oc3⟩ : ∃ m, (s2.heap.update c (Obj.mapSeq (·.push (.int p.2 t)))).get? c = some (seqObj "list" (kA.push (.int p.2 t)) m) := ⟨_, get?_update_seq oc2 (·.push (.int p.2 t))⟩
      have jz : kA.size ≤ sizeLine := by rw [kl]; exact Nat.le_trans (Nat.le_of_lt hj) (by rw [← hlen]; exact hzl)
      refine wpAny_bind (listUpdate_at oc2 rfl (wpAny_pure ⟨rfl, H2, kA.push (.int p.2 t), m, ?_, e1.trans e2, c2, d2, oc3, (Heap.get?_update_ne _ _ _ _ hcd.symm).trans od2, ?_⟩) jz (by rw [Array.size_push]; exact Nat.succ_le_succ jz))
      · exact I2.turnedL (t' := s2.toks) (ch := [c]) (fun b o nb z => (Heap.get?_update_ne _ _ _ _ (fun w => nb (by simp [w]))).trans z) fun b mb => by
          rw [List.mem_singleton.mp mb]
          exact fc H2 c2
      · rw [take_one hp, List.map_append, Array.toList_push]
        exact each_more ks ⟨_, _, rfl, rfl⟩
  · rintro s' ⟨H1, kA, n, I1, e1, c1, d1, oc1, od1, ks⟩
    rw [Nat.zero_add, hlen, List.take_length] at ks
    have kl : kA.size = its.length := by
      have z := ks.length
      rw [Array.length_toList, List.length_map] at z
      omega
    refine wpAny_bind (listItems_at oc1 rfl ?_)
    have rd : PySem.W.EachIs (fun v n => ∃ as, Reads s'.heap v n as) kA.toList (bs.map fun p => PyData.int p.2) := ks.mono fun v n ⟨i, t, e1, e2⟩ => by
      subst e1
      subst e2
      exact ⟨[], .int i t⟩
    have al : PySem.W.AllAlike (bs.map fun p => PyData.int p.2) := fun x hx y hy => by
      obtain ⟨p, _, rfl⟩ := List.mem_map.mp hx
      obtain ⟨q, _, rfl⟩ := List.mem_map.mp hy
      rfl
    have so : PySem.W.Sortable (bs.map fun p => PyData.int p.2) := .inr fun x hx => by
      obtain ⟨p, _, rfl⟩ := List.mem_map.mp hx
      exact ⟨fun z => (nomatch z), fun _ z => (nomatch z)⟩
    have rm := hr.un
    have S := PySem.W.SortsAt.data (prog := X.prog) (w := X.w) (A := X.A.in1.in1) (s := s') rd al so fun x hx => by
      obtain ⟨p, _, rfl⟩ := List.mem_map.mp hx
      show X.A.units + 1 + 1 + (PyData.int p.2).depth < cLine
      rw [PyData.depth]
      omega
    refine PySem.W.keyH_end (h₁ := hole s'.heap c) (fun b o nb z => ?_) (hole_at _ _) oc1 od1 hcd S kl hzl fun h2 tk m kp od2 => ?_
    · have bc : b ≠ c := fun w => by
        rw [w, hole_at] at z
        cases z
      exact (hole_ne bc).symm.trans z
    · have J : Inv X pins σ H1 { s' with heap := h2, toks := tk } := I1.turnedL (ch := [c, d]) (fun b o nb z => kp b o (fun w => nb (by simp [w])) ((hole_ne fun w => nb (by simp [w])).trans z)) fun b mb => by
        rcases List.mem_cons.mp mb with w | w
        · rw [w]
          exact fc H1 c1
        · rw [List.mem_singleton.mp w]
          exact fd' H1 d1
      have ko : PySem.W.KeyedOut false (bs.map fun p => PyData.int p.2) its (PySem.W.sortVals (PySem.W.dataKind s'.heap (bs.map fun p => PyData.int p.2)) false kA.toList its) := ⟨_, _, al, rfl, rd⟩
      have out := PySem.W.keyedOut_each (fun p : V × Int => PyData.int p.2) ko each
      rw [PySem.W.dataLe_int] at out
      have rv := each_vals out
      refine done _ H1 e1 d1 (J.take (h' := h2) (t' := tk) (fun b ob _ z => z) (fd' H1 d1) ⟨?_, _, m, rv, od2⟩)
      rw [rv.length, PySem.W.sortVals_length _ (by rw [Array.length_toList]; exact kl)]
      exact hzl
theorem cr_sortedF (F : FnOk X.prog X.w X.K X.mg X.base CX0 k f fd [x] sp) (hr : Room (k + 2) X.A) (hb : Binds X.K fd [x] []) : CallRK X (.builtin "sorted") [Str.ofString "key"] (rSortedF X.K f sp) := by
  intro pins s σ H vs zs us ws Q I r rz h
  obtain ⟨a, bs, rfl, rfl, hs, turn, q⟩ := h
  obtain ⟨its, rv, hl, hz⟩ := I.list hs
  rw [Vals.ref1 r]
  obtain ⟨w1, rfl, e1⟩ := vals1 rz
  obtain rfl : w1 = Value.ref f := e1
  have hlen : its.length = bs.length := by rw [← rv.length, List.length_map]
  have hzl : its.length ≤ sizeLine := by rw [← rv.length]; exact hz
  refine PySem.W.sorted_of_sort hl.isList hzl (PyProof.Rows.ksk_s1 _ _) (fun _ => PyProof.Rows.ksk_l1 _ _) fun E' => ?_
  have way : Builtin.«list.sort» ⟨[.ref (s.heap.objs.size + 1)], [Str.ofString "key"].zip [Value.ref f]⟩ = PyProof.Rows.ksk_tree (s.heap.objs.size + 1) (.ref f) false := PyProof.Rows.ksk_t1 _ _
  rw [way]
  generalize hd : s.heap.objs.size + 1 = d
  have sd : s.heap.objs.size ≤ d := by rw [← hd]; exact Nat.le_succ _
  have od : (PySem.W.copyHeap s.heap its).get? d = some (seqObj "list" its.toArray 0) := by rw [← hd]; exact PySem.W.copyHeap_at _ _
  have ld : d < (PySem.W.copyHeap s.heap its).objs.size := Heap.lt_size od
  obtain ⟨ep, oe⟩ : ∃ e, ((PySem.W.copyHeap s.heap its).update d (Obj.mapSeq fun _ => (#[] : Array Value))).get? d = some (seqObj "list" #[] e) := ⟨_, get?_update_seq od fun _ => #[]⟩
  unfold PyProof.Rows.ksk_tree
  refine wpAny_bind (listItems_at od rfl (wpAny_bind (listUpdate_at od rfl (wpAny_bind (seqEpoch_at oe rfl (wpAny_bind (wpAny_newTuple (wpAny_bind (wpAny_newList (wpAny_holding ?_) (Nat.zero_le _))) hzl)))) (by rw [List.size_toArray]; exact hzl) (Nat.zero_le _))))
  have on : ∀ b o, s.heap.get? b = some o → (PySem.W.sortingHeap (PySem.W.copyHeap s.heap its) d its).get? b = some o := fun b o z => PySem.W.sortingHeap_old (by rw [← hd]; exact Nat.ne_of_lt (Nat.lt_succ_of_lt (Heap.lt_size z))) (PySem.W.copyHeap_old z)
  have I1 : Inv X pins σ H { s with heap := PySem.W.sortingHeap (PySem.W.copyHeap s.heap its) d its } := I.kept (t' := s.toks) on
  have hc : (((PySem.W.copyHeap s.heap its).update d (Obj.mapSeq fun _ => (#[] : Array Value))).push (seqObj "tuple" its.toArray 0)).objs.size = (PySem.W.copyHeap s.heap its).objs.size + 1 := by rw [size_push', Heap.size_update]
  have sc : s.heap.objs.size ≤ (PySem.W.copyHeap s.heap its).objs.size + 1 := by omega
  show wpAny (model X.prog X.w) X.A.in1.in1 (PyProof.Rows.ksk_rest d (.ref f) false its.toArray ep (.ref (((PySem.W.copyHeap s.heap its).update d (Obj.mapSeq fun _ => (#[] : Array Value))).push (seqObj "tuple" its.toArray 0)).objs.size)) _ E' { s with heap := PySem.W.sortingHeap (PySem.W.copyHeap s.heap its) d its }
  refine keyed_rest F hr hb I1 (fun H1 z => I.fpOk (by rw [hc]; exact sc) z) (fun H1 z => I.fpOk sd z) (I.hok.fresh (by rw [hc]; exact sc)) (I.hok.fresh sd) (Heap.get?_push_size _ rfl) (Heap.get?_push_of_some _ (Heap.get?_push_of_some _ oe)) (by rw [hc]; exact Nat.ne_of_gt (Nat.lt_succ_of_lt ld)) (vals_each rv) hzl turn fun s' H1 e1 d1 I2 => ⟨rfl, .ref d, _, I2, rfl, q d H1 (I.hok.fresh sd) d1 e1⟩
end
end Own

namespace Own
open PySem PySem.Spec PyProof.Rows L2
open AutoSeq1 (wpAny_loadPart')

/-! ### xs.extend(t), t a tuple -/
theorem extend_by_tuple (l : Addr) (xs : Array Value) (e : Nat) (b : Addr) (ys : Array Value) (e2 : Nat) (dc : Option Addr) (sl : Array (Option Value))
    (short : ¬(!xs.isEmpty && Builtin.List.listTooLong (xs.size + ys.size)) = true) (fits : xs.size ≤ sizeLine) (fits2 : xs.size + ys.size ≤ sizeLine + 1) :
    Meets (Builtin.«list.extend» ⟨[.ref l, .ref b], []⟩) (fun _ R s => s.heap.get? l = some { cls := .type "list", data := .seq xs e } ∧
      s.heap.get? b = some { cls := .type "tuple", dict := dc, data := .seq ys e2, slots := sl } ∧
      R (.ok (.ret Value.none)) { s with heap := s.heap.update l (Obj.mapSeq fun z => z ++ ys) }) := by
  refine .of_wp fun prog w A R s h => ?_
  obtain ⟨heap, gens, drawn, toks, os⟩ := s
  obtain ⟨atl, atb, goal⟩ := h
  have k1 := PySem.AutoSeq1.idx_int
  have k2 := PySem.AutoSeq1.sub_tuple_tuple
  have k3 := PySem.AutoSeq1.sub_list_list
  have k4 := PySem.AutoSeq1.sub_tuple_list
  have k5 := PySem.AutoSeq1.sub_list_tuple
  have k6 : (xs ++ ys).size ≤ sizeLine + 1 := by rw [Array.size_append]; exact fits2
  wp_walk using (wpAny_updateSeq atl rfl (hz := fits) (_hz' := k6)), wpAny_loadPart' atl, wpAny_loadPart' atb
  exact ⟨_, rfl, goal⟩
def rExtendT (K : PySem.W.Frag) : V → List V → Hp → VK → Prop := fun x vs H Q => ∃ l b xs zs, x = .ref l ∧ vs = [.ref b] ∧ H l = some (.lst xs) ∧ SqT K H b zs ∧ xs.length + zs.length ≤ sizeLine ∧ Q .non (upd H l (.lst (xs ++ zs)))
theorem mt_extendT {X : Cx} : MtM X "list.extend" (rExtendT X.K) := by
  intro pins s σ H x vs v us Q I rx rv h
  obtain ⟨l, b, xs, zs, rfl, rfl, hl, hb, hz, q⟩ := h
  cases rx
  obtain ⟨u, rfl, ru⟩ := rv.one
  cases ru
  obtain ⟨_, its, n, r, hln, e⟩ := I.lstM hl
  obtain ⟨its2, r2, ⟨⟨c, dc, dt, sl⟩, e2, hc, n2, hd⟩, _⟩ := I.tuple hb
  have hc' : c = .type "tuple" := hc
  have hd' : dt = .seq its2.toArray n2 := hd
  subst hc' hd'
  have l2 := r2.length
  have sz : its.toArray.size + its2.toArray.size ≤ sizeLine := by rw [List.size_toArray, List.size_toArray]; omega
  have no : ¬ (!its.toArray.isEmpty && Builtin.List.listTooLong (its.toArray.size + its2.toArray.size)) = true := by
    rw [notLongL sz, Bool.and_false]
    exact Bool.false_ne_true
  refine call_meets F.slot_list_extend ⟨_, e, rfl⟩ F.entry_list_extend (F.args_list_extend_2 _ _) (extend_by_tuple l _ n b _ n2 dc sl no (by omega) (by omega)) ⟨e, e2, ?_⟩
  refine ⟨.non, _, I.lset (its' := its ++ its2) hl e (by simp) (r.append r2) ?_, rfl, q⟩
  rw [List.length_append]
  exact hz
end Own

namespace Own
open PySem PySem.Spec PyProof.Rows L2

/-! ### lots by numbers -/
def lotOf (row : List Int) (m : Nat) : List Int := (row.zipIdx.filter fun x => m.testBit x.2).map Prod.fst
theorem zip_take {row : List Int} {i : Nat} {z : Int} (h : row[i]? = some z) : (row.take (i + 1)).zipIdx = (row.take i).zipIdx ++ [(z, i)] := by
  rw [take_snoc h, List.zipIdx_append]
  have : (row.take i).length = i := by
    rw [List.length_take]
    have := (List.getElem?_eq_some_iff.mp h).1
    omega
  rw [this]
  simp [List.zipIdx]
theorem lot_snoc {row : List Int} {i : Nat} {z : Int} (m : Nat) (h : row[i]? = some z) : lotOf (row.take (i + 1)) m = lotOf (row.take i) m ++ (if m.testBit i = true then [z] else []) := by
  unfold lotOf
  rw [zip_take h, List.filter_append, List.map_append]
  simp only [List.filter_cons, List.filter_nil]
  cases m.testBit i <;> rfl
theorem lot_len (row : List Int) (m : Nat) : (lotOf row m).length ≤ row.length := by
  unfold lotOf
  rw [List.length_map]
  refine Nat.le_trans (List.length_filter_le _ _) ?_
  rw [List.length_zipIdx]
  exact Nat.le_refl _
theorem mem_lot {row : List Int} {m p : Nat} {z : Int} (hn : row.Nodup) (h : row[p]? = some z) : z ∈ lotOf row m ↔ m.testBit p = true := by
  unfold lotOf
  rw [List.mem_map]
  constructor
  · rintro ⟨⟨y, q⟩, hy, rfl⟩
    rw [List.mem_filter] at hy
    have hq := List.mem_zipIdx_iff_getElem?.mp hy.1
    have : p = q := by
      obtain ⟨h1, e1⟩ := List.getElem?_eq_some_iff.mp h
      obtain ⟨h2, e2⟩ := List.getElem?_eq_some_iff.mp hq
      exact (List.getElem_inj hn).mp (e1.trans e2.symm)
    rw [this]
    exact hy.2
  · intro hb
    exact ⟨(z, p), List.mem_filter.mpr ⟨List.mem_zipIdx_iff_getElem?.mpr h, hb⟩, rfl⟩
theorem lot_sub {row : List Int} {m : Nat} {z : Int} (h : z ∈ lotOf row m) : z ∈ row := by
  unfold lotOf at h
  obtain ⟨⟨y, q⟩, hy, rfl⟩ := List.mem_map.mp h
  exact List.mem_of_getElem? (List.mem_zipIdx_iff_getElem?.mp (List.mem_filter.mp hy).1)

/-! ### the mark of a place -/
/-- what has bit m just for the m below 2 ^ f that have bit p -/
structure Mark (p f N : Nat) : Prop where
  bit : ∀ m, N.testBit m = (decide (m < 2 ^ f) && m.testBit p)
theorem bit_low {m p : Nat} (h0 : 2 ^ p ≤ m) (h1 : m < 2 ^ (p + 1)) : m.testBit p = true := by
  rw [Nat.testBit_eq_decide_div_mod_eq]
  have : m / 2 ^ p = 1 := by
    have hp : 0 < 2 ^ p := Nat.two_pow_pos p
    have e : 2 ^ (p + 1) = 2 * 2 ^ p := by rw [Nat.pow_succ]; omega
    have a : 1 ≤ m / 2 ^ p := (Nat.le_div_iff_mul_le hp).mpr (by omega)
    have b : m / 2 ^ p < 2 := (Nat.div_lt_iff_lt_mul hp).mpr (by omega)
    omega
  rw [this]
  rfl
theorem bit_less {m p : Nat} (h : m < 2 ^ p) : m.testBit p = false := Nat.testBit_lt_two_pow h
theorem mark_first (p : Nat) : Mark p (p + 1) ((2 ^ 2 ^ p - 1) * 2 ^ 2 ^ p) := by
  refine ⟨fun m => ?_⟩
  rw [← Nat.shiftLeft_eq, Nat.testBit_shiftLeft, Nat.testBit_two_pow_sub_one]
  have e : 2 ^ (p + 1) = 2 * 2 ^ p := by rw [Nat.pow_succ]; omega
  by_cases h0 : 2 ^ p ≤ m
  · by_cases h1 : m < 2 ^ (p + 1)
    · rw [bit_low h0 h1]
      simp [h0, h1]
      omega
    · have : ¬ m - 2 ^ p < 2 ^ p := by omega
      simp [h1, this]
  · rw [bit_less (by omega)]
    simp [h0]
theorem bit_off {m f p : Nat} (hp : p < f) (h0 : 2 ^ f ≤ m) (h1 : m < 2 ^ (f + 1)) : (m - 2 ^ f).testBit p = m.testBit p := by
  have e : 2 ^ (f + 1) = 2 * 2 ^ f := by rw [Nat.pow_succ]; omega
  obtain ⟨d, hd⟩ : ∃ d, m = 2 ^ f + d := ⟨m - 2 ^ f, by omega⟩
  subst hd
  have h : 2 ^ f + d - 2 ^ f = d := by omega
  rw [h, Nat.testBit_two_pow_add_gt hp]
theorem mark_more {p f N : Nat} (h : Mark p f N) (hp : p < f) : Mark p (f + 1) (N ||| N * 2 ^ 2 ^ f) := by
  refine ⟨fun m => ?_⟩
  rw [Nat.testBit_or, ← Nat.shiftLeft_eq, Nat.testBit_shiftLeft, h.bit, h.bit]
  have e : 2 ^ (f + 1) = 2 * 2 ^ f := by rw [Nat.pow_succ]; omega
  by_cases h0 : 2 ^ f ≤ m
  · by_cases h1 : m < 2 ^ (f + 1)
    · have a : ¬ m < 2 ^ f := by omega
      have b : m - 2 ^ f < 2 ^ f := by omega
      rw [bit_off hp h0 h1]
      simp [h0, h1, a, b]
    · have a : ¬ m < 2 ^ f := by omega
      have b : ¬ m - 2 ^ f < 2 ^ f := by omega
      simp [h1, a, b]
  · have a : m < 2 ^ f := by omega
    have b : m < 2 ^ (f + 1) := by omega
    simp [h0, a, b]
theorem mark_lt {p f N : Nat} (h : Mark p f N) : N < 2 ^ 2 ^ f := by
  apply Nat.lt_pow_two_of_testBit
  intro i hi
  rw [h.bit]
  have : ¬ i < 2 ^ f := by omega
  simp [this]
/-! masks of lots -/
/-- what has bit m just for the m below 2 ^ n of which P holds -/
structure Mask (n : Nat) (P : Nat → Bool) (N : Nat) : Prop where
  bit : ∀ m, N.testBit m = (decide (m < 2 ^ n) && P m)
theorem Mark.mask {p n N : Nat} {row : List Int} {z : Int} (h : Mark p n N) (hn : row.Nodup) (hz : row[p]? = some z) : Mask n (fun m => decide (z ∈ lotOf row m)) N := by
  refine ⟨fun m => ?_⟩
  rw [h.bit]
  congr 1
  by_cases hb : m.testBit p = true
  · rw [hb, decide_eq_true ((mem_lot hn hz).mpr hb)]
  · rw [decide_eq_false fun q => hb ((mem_lot hn hz).mp q)]
    simpa using hb
theorem mask_zero {n : Nat} {P : Nat → Bool} (h : ∀ m, P m = false) : Mask n P 0 := ⟨fun m => by rw [h]; simp⟩
theorem mask_all (n : Nat) {P : Nat → Bool} (h : ∀ m, P m = true) : Mask n P (2 ^ 2 ^ n - 1) := ⟨fun m => by rw [h, Nat.testBit_two_pow_sub_one]; simp⟩
theorem Mask.or {n : Nat} {P Q : Nat → Bool} {M N : Nat} (h : Mask n P M) (k : Mask n Q N) : Mask n (fun m => P m || Q m) (M ||| N) := ⟨fun m => by
  rw [Nat.testBit_or, h.bit, k.bit]
  cases decide (m < 2 ^ n) <;> simp⟩
theorem Mask.and {n : Nat} {P Q : Nat → Bool} {M N : Nat} (h : Mask n P M) (k : Mask n Q N) : Mask n (fun m => P m && Q m) (M &&& N) := ⟨fun m => by
  rw [Nat.testBit_and, h.bit, k.bit]
  cases decide (m < 2 ^ n) <;> simp⟩
theorem Mask.congr {n : Nat} {P Q : Nat → Bool} {N : Nat} (h : Mask n P N) (e : ∀ m, P m = Q m) : Mask n Q N := ⟨fun m => by rw [h.bit, e]⟩
theorem bits_of {N k : Nat} (h : N < 2 ^ k) : Builtin.Int.intBits (N : Int) ≤ k := by
  unfold Builtin.Int.intBits
  by_cases h0 : N = 0
  · subst h0
    simp
  · have : N.log2 < k := (Nat.log2_lt h0).mpr h
    split <;> simp_all <;> omega
theorem bitOr_nat (a b : Nat) : Builtin.bitOr (a : Int) (b : Int) = ((a ||| b : Nat) : Int) := by
  rw [Bits.bitOr_pp (Int.natCast_nonneg _) (Int.natCast_nonneg _), Int.toNat_natCast, Int.toNat_natCast]
theorem bitAnd_nat (a b : Nat) : Builtin.bitAnd (a : Int) (b : Int) = ((a &&& b : Nat) : Int) := rfl
theorem pow_nat (k : Nat) : (2 : Int) ^ k = ((2 ^ k : Nat) : Int) := by
  rw [Int.natCast_pow]
  rfl
/-- bit m of a natural number, as Python asks for it -/
theorem ask_bit (N m : Nat) : decide (V.int (Builtin.bitAnd ((N : Int) / 2 ^ m) 1) = V.int 1) = N.testBit m := by
  have e : ((N : Int) / 2 ^ m) = ((N / 2 ^ m : Nat) : Int) := by
    rw [pow_nat, Int.natCast_ediv]
  rw [e]
  have e2 : Builtin.bitAnd ((N / 2 ^ m : Nat) : Int) 1 = ((N / 2 ^ m &&& 1 : Nat) : Int) := rfl
  rw [e2, Nat.and_one_is_mod, Nat.testBit_eq_decide_div_mod_eq]
  by_cases h : N / 2 ^ m % 2 = 1
  · rw [decide_eq_true h]
    exact decide_eq_true (by rw [h]; rfl)
  · rw [decide_eq_false h]
    refine decide_eq_false fun q => h ?_
    have := V.int.inj q
    omega
end Own

namespace Own
open PySem PySem.Spec PyProof.Rows L2

/-! ### sound trees -/
mutual
def Tr.ok : Tr → Prop
  | .b _ => True
  | .t k ps => 1 ≤ k ∧ k ≤ ps.length ∧ Tr.oks ps
def Tr.oks : List Tr → Prop
  | [] => True
  | p :: r => p.ok ∧ Tr.oks r
end
theorem oks_all : ∀ {ps : List Tr}, Tr.oks ps ↔ ∀ p ∈ ps, p.ok
  | [] => by simp [Tr.oks]
  | p :: r => by simp [Tr.oks, oks_all (ps := r)]
theorem helds_eq : ∀ ps : List Tr, Tr.helds ps = ps.flatMap Tr.held
  | [] => by simp [Tr.helds]
  | p :: r => by simp [Tr.helds, helds_eq r]
theorem deeps_le {n : Nat} : ∀ {ps : List Tr}, Tr.deeps ps ≤ n ↔ ∀ p ∈ ps, p.deep ≤ n
  | [] => by simp [Tr.deeps]
  | p :: r => by
    rw [Tr.deeps, Nat.max_le, deeps_le (ps := r)]
    simp
mutual
theorem ok_pos : ∀ t : Tr, t.ok → 1 ≤ t.held.length
  | .b _, _ => by rw [Tr.held]; exact Nat.le_refl _
  | .t k ps, h => by
    rw [Tr.ok] at h
    rw [Tr.held]
    have := oks_pos ps h.2.2
    omega
theorem oks_pos : ∀ ps : List Tr, Tr.oks ps → ps.length ≤ (Tr.helds ps).length
  | [], _ => by rw [Tr.helds]; exact Nat.le_refl _
  | p :: r, h => by
    rw [Tr.oks] at h
    have h1 := ok_pos p h.1
    have h2 := oks_pos r h.2
    rw [Tr.helds, List.length_append, List.length_cons]
    omega
end
/-! ### the least button ahead, as the code looks for it -/
mutual
def Tr.least : Tr → Int
  | .b i => i
  | .t _ ps => Tr.leasts ps
def Tr.leasts : List Tr → Int
  | [] => 0
  | p :: _ => p.least
end
/-! ### contrary trees -/
mutual
def con : Tr → Tr
  | .b i => .b i
  | .t k ps => .t ((ps.length : Int) - k + 1) (cons ps)
def cons : List Tr → List Tr
  | [] => []
  | p :: r => con p :: cons r
end
theorem cons_eq : ∀ ps : List Tr, cons ps = ps.map con
  | [] => by rw [cons]; rfl
  | p :: r => by rw [cons, cons_eq r]; rfl
theorem cons_len (ps : List Tr) : (cons ps).length = ps.length := by rw [cons_eq, List.length_map]
mutual
theorem con_con : ∀ t : Tr, con (con t) = t
  | .b i => by rw [con, con]
  | .t k ps => by
    rw [con, con, cons_len, cons_cons ps]
    congr 1
    omega
theorem cons_cons : ∀ ps : List Tr, cons (cons ps) = ps
  | [] => by rw [cons, cons]
  | p :: r => by rw [cons, cons, con_con p, cons_cons r]
end
mutual
theorem con_held : ∀ t : Tr, (con t).held = t.held
  | .b i => by rw [con]
  | .t k ps => by rw [con, Tr.held, Tr.held, cons_helds ps]
theorem cons_helds : ∀ ps : List Tr, Tr.helds (cons ps) = Tr.helds ps
  | [] => by rw [cons]
  | p :: r => by rw [cons, Tr.helds, Tr.helds, con_held p, cons_helds r]
end
mutual
theorem con_deep : ∀ t : Tr, (con t).deep = t.deep
  | .b i => by rw [con]
  | .t k ps => by rw [con, Tr.deep, Tr.deep, cons_deeps ps]
theorem cons_deeps : ∀ ps : List Tr, Tr.deeps (cons ps) = Tr.deeps ps
  | [] => by rw [cons]
  | p :: r => by rw [cons, Tr.deeps, Tr.deeps, con_deep p, cons_deeps r]
end
mutual
theorem con_ok : ∀ t : Tr, t.ok → (con t).ok
  | .b i, _ => by rw [con, Tr.ok]; trivial
  | .t k ps, h => by
    rw [Tr.ok] at h
    rw [con, Tr.ok, cons_len]
    exact ⟨by omega, by omega, cons_oks ps h.2.2⟩
theorem cons_oks : ∀ ps : List Tr, Tr.oks ps → Tr.oks (cons ps)
  | [], _ => by rw [cons, Tr.oks]; trivial
  | p :: r, h => by
    rw [Tr.oks] at h
    rw [cons, Tr.oks]
    exact ⟨con_ok p h.1, cons_oks r h.2⟩
end
mutual
theorem con_least : ∀ t : Tr, (con t).least = t.least
  | .b i => by rw [con]
  | .t k ps => by rw [con, Tr.least, Tr.least, cons_leasts ps]
theorem cons_leasts : ∀ ps : List Tr, Tr.leasts (cons ps) = Tr.leasts ps
  | [] => by rw [cons]
  | p :: r => by rw [cons, Tr.leasts, Tr.leasts, con_least p]
end
theorem con_trip (t : Tr) : (con t).isTrip = t.isTrip := by
  cases t with
  | b i => rw [con]
  | t k ps => rw [con]; rfl
/-! it goes with a lot just if the tree fails with all buttons that aren't in it -/
mutual
theorem go_con {L M : List Int} : ∀ t : Tr, (∀ x ∈ t.held, x ∈ L ↔ x ∉ M) → (con t).go L = !t.go M
  | .b i, h => by
    have := h i (by rw [Tr.held]; exact List.mem_singleton.mpr rfl)
    rw [con, Tr.go, Tr.go]
    by_cases hi : i ∈ L
    · rw [decide_eq_true hi, decide_eq_false (this.mp hi)]
      rfl
    · rw [decide_eq_false hi, decide_eq_true (Decidable.not_not.mp fun q => hi (this.mpr q))]
      rfl
  | .t k ps, h => by
    have hc := cnt_con ps (by rw [Tr.held] at h; exact h)
    rw [con, Tr.go, Tr.go]
    by_cases hk : k ≤ (Tr.cnt M ps : Int)
    · rw [decide_eq_true hk]
      exact decide_eq_false (by omega)
    · rw [decide_eq_false hk]
      exact decide_eq_true (by omega)
theorem cnt_con {L M : List Int} : ∀ ps : List Tr, (∀ x ∈ Tr.helds ps, x ∈ L ↔ x ∉ M) → Tr.cnt L (cons ps) + Tr.cnt M ps = ps.length
  | [], _ => by rw [cons, Tr.cnt, Tr.cnt]; rfl
  | p :: r, h => by
    rw [Tr.helds] at h
    have hp := go_con p fun x hx => h x (List.mem_append_left _ hx)
    have ih := cnt_con r fun x hx => h x (List.mem_append_right _ hx)
    rw [cons, Tr.cnt, Tr.cnt, hp, List.length_cons]
    cases p.go M <;> simp <;> omega
end
/-! ### told trees -/
inductive Wd where
  | one
  | all
  | some
  deriving DecidableEq
def wordOf (k n : Int) : Wd := if k = 1 then .one else if k = n then .all else .some
def Wd.flip : Wd → Wd
  | .one => .all
  | .all => .one
  | .some => .some
theorem word_con {k n : Int} (h1 : 1 ≤ k) (h2 : k ≤ n) (hn : n ≠ 1) : wordOf (n - k + 1) n = (wordOf k n).flip := by
  unfold wordOf
  by_cases a : k = 1
  · have b : ¬ n - k + 1 = 1 := by omega
    have c : n - k + 1 = n := by omega
    rw [if_pos a, if_neg b, if_pos c]
    rfl
  · by_cases b : k = n
    · have c : n - k + 1 = 1 := by omega
      rw [if_neg a, if_pos b, if_pos c]
      rfl
    · have c : ¬ n - k + 1 = 1 := by omega
      have d : ¬ n - k + 1 = n := by omega
      rw [if_neg a, if_neg b, if_neg c, if_neg d]
      rfl
theorem flip_inj {a b : Wd} (h : a.flip = b.flip) : a = b := by
  cases a <;> cases b <;> first | rfl | cases h
/-- what a part gives to its trip's parts -/
def gives (w : Wd) : Tr → List Tr
  | .b i => [.b i]
  | .t k ps => if w ≠ .some ∧ wordOf k ps.length = w then ps else [.t k ps]
theorem gives_t (w : Wd) (k : Int) (ps : List Tr) : gives w (.t k ps) = if w ≠ .some ∧ wordOf k ps.length = w then ps else [.t k ps] := rfl
def sortT (l : List Tr) : List Tr := l.mergeSort fun a b => decide (a.least ≤ b.least)
def joined (k : Int) (inner : List Tr) : Tr :=
  .t (if wordOf k inner.length = .all then ((inner.flatMap (gives (wordOf k inner.length))).length : Int) else k) (sortT (inner.flatMap (gives (wordOf k inner.length))))
def fold1 (k : Int) : List Tr → Tr
  | [p] => p
  | ps => joined k ps
mutual
def tell : Tr → Tr
  | .b i => .b i
  | .t k ps => fold1 k (tells ps)
def tells : List Tr → List Tr
  | [] => []
  | p :: r => tell p :: tells r
end
theorem tells_eq : ∀ ps : List Tr, tells ps = ps.map tell
  | [] => by rw [tells]; rfl
  | p :: r => by rw [tells, tells_eq r]; rfl
theorem tells_len (ps : List Tr) : (tells ps).length = ps.length := by rw [tells_eq, List.length_map]
theorem sort_perm (l : List Tr) : (sortT l).Perm l := List.mergeSort_perm _ _
theorem sort_con (l : List Tr) : (sortT l).map con = sortT (l.map con) := List.map_mergeSort fun a _ b _ => by rw [con_least, con_least]
theorem fold_ne {k : Int} {ps : List Tr} (h : ps.length ≠ 1) : fold1 k ps = joined k ps := by
  match ps, h with
  | [], _ => rfl
  | [_], h => exact absurd rfl h
  | _ :: _ :: _, _ => rfl
theorem perm_flat {A B : List Tr} (h : A.Perm B) : (Tr.helds A).Perm (Tr.helds B) := by
  rw [helds_eq, helds_eq]
  exact h.flatMap_right _
theorem gives_held (w : Wd) (t : Tr) : Tr.helds (gives w t) = t.held := by
  cases t with
  | b i => simp [gives, Tr.helds, Tr.held]
  | t k ps =>
    rw [gives_t]
    split
    · rw [Tr.held]
    · simp [Tr.helds]
theorem helds_gives (w : Wd) : ∀ l : List Tr, Tr.helds (l.flatMap (gives w)) = Tr.helds l
  | [] => rfl
  | p :: r => by
    rw [List.flatMap_cons, helds_eq, List.flatMap_append, ← helds_eq, ← helds_eq, gives_held, helds_gives w r, Tr.helds]
theorem gives_ok (w : Wd) {t : Tr} (h : t.ok) : (∀ p ∈ gives w t, p.ok) ∧ 1 ≤ (gives w t).length := by
  cases t with
  | b i => exact ⟨fun p hp => by rw [List.mem_singleton.mp hp]; exact h, Nat.le_refl _⟩
  | t k ps =>
    rw [gives_t]
    split
    · rw [Tr.ok] at h
      exact ⟨oks_all.mp h.2.2, by omega⟩
    · exact ⟨fun p hp => by rw [List.mem_singleton.mp hp]; exact h, Nat.le_refl _⟩
theorem gives_deep {w : Wd} {t : Tr} {n : Nat} (h : t.deep ≤ n) : ∀ p ∈ gives w t, p.deep ≤ n := by
  cases t with
  | b i => exact fun p hp => by rw [List.mem_singleton.mp hp]; exact h
  | t k ps =>
    rw [gives_t]
    split
    · intro p hp
      rw [Tr.deep] at h
      exact (deeps_le (n := n)).mp (by omega) p hp
    · exact fun p hp => by rw [List.mem_singleton.mp hp]; exact h
theorem flat_len {w : Wd} : ∀ {l : List Tr}, (∀ p ∈ l, p.ok) → l.length ≤ (l.flatMap (gives w)).length
  | [], _ => Nat.le_refl _
  | p :: r, h => by
    have h1 := (gives_ok w (h p List.mem_cons_self)).2
    have h2 := flat_len (w := w) (l := r) fun q hq => h q (List.mem_cons_of_mem _ hq)
    rw [List.flatMap_cons, List.length_append, List.length_cons]
    omega
theorem gives_some (l : List Tr) : l.flatMap (gives .some) = l := by
  have : ∀ p : Tr, gives .some p = [p] := fun p => by
    cases p with
    | b i => rfl
    | t k ps => rw [gives_t, if_neg fun q => q.1 rfl]
  induction l with
  | nil => rfl
  | cons p r ih => rw [List.flatMap_cons, this, ih]; rfl
/-- what telling keeps -/
structure Like (a b : Tr) : Prop where
  ok : a.ok
  held : a.held.Perm b.held
  deep : a.deep ≤ b.deep
theorem joined_like {k : Int} {inner : List Tr} {ps : List Tr} (h1 : 1 ≤ k) (h2 : k ≤ inner.length) (ho : ∀ p ∈ inner, p.ok) (hh : (Tr.helds inner).Perm (Tr.helds ps)) (hd : ∀ p ∈ inner, p.deep ≤ Tr.deeps ps) : Like (joined k inner) (.t k ps) := by
  have hp := sort_perm (inner.flatMap (gives (wordOf k inner.length)))
  have hl := hp.length_eq
  have hf := flat_len (w := wordOf k inner.length) ho
  refine ⟨?_, ?_, ?_⟩
  · unfold joined
    rw [Tr.ok, hl]
    refine ⟨?_, ?_, oks_all.mpr fun p hq => ?_⟩
    · split <;> omega
    · split
      · exact Int.le_refl _
      · omega
    · obtain ⟨q, hq1, hq2⟩ := List.mem_flatMap.mp (hp.mem_iff.mp hq)
      exact (gives_ok _ (ho q hq1)).1 p hq2
  · unfold joined
    rw [Tr.held, Tr.held]
    refine (perm_flat hp).trans ?_
    rw [helds_gives]
    exact hh
  · unfold joined
    rw [Tr.deep, Tr.deep]
    refine Nat.succ_le_succ (deeps_le.mpr fun p hq => ?_)
    obtain ⟨q, hq1, hq2⟩ := List.mem_flatMap.mp (hp.mem_iff.mp hq)
    exact gives_deep (hd q hq1) p hq2
mutual
theorem tell_like : ∀ t : Tr, t.ok → Like (tell t) t
  | .b i, h => by rw [tell]; exact ⟨h, List.Perm.refl _, Nat.le_refl _⟩
  | .t k ps, h => by
    rw [Tr.ok] at h
    obtain ⟨a1, a2, a3⟩ := tells_like ps h.2.2
    rw [tell]
    by_cases one : (tells ps).length = 1
    · match hq : tells ps, one with
      | [p], _ =>
        rw [hq] at a1 a2 a3
        rw [fold1]
        refine ⟨a1 p (List.mem_singleton.mpr rfl), ?_, ?_⟩
        · rw [Tr.held]
          simpa [Tr.helds] using a2
        · have := a3 p (List.mem_singleton.mpr rfl)
          rw [Tr.deep]
          omega
    · rw [fold_ne one]
      exact joined_like h.1 (by rw [tells_len]; exact h.2.1) a1 a2 a3
theorem tells_like : ∀ ps : List Tr, Tr.oks ps → (∀ p ∈ tells ps, p.ok) ∧ (Tr.helds (tells ps)).Perm (Tr.helds ps) ∧ ∀ p ∈ tells ps, p.deep ≤ Tr.deeps ps
  | [], _ => by
    rw [tells]
    exact ⟨fun p hp => (nomatch hp), List.Perm.refl _, fun p hp => (nomatch hp)⟩
  | q :: r, h => by
    rw [Tr.oks] at h
    obtain ⟨b1, b2, b3⟩ := tell_like q h.1
    obtain ⟨a1, a2, a3⟩ := tells_like r h.2
    rw [tells]
    refine ⟨fun p hp => ?_, ?_, fun p hp => ?_⟩
    · rcases List.mem_cons.mp hp with e | e
      · rw [e]; exact b1
      · exact a1 p e
    · rw [Tr.helds, Tr.helds]
      exact b2.append a2
    · rw [Tr.deeps]
      rcases List.mem_cons.mp hp with e | e
      · rw [e]; omega
      · have := a3 p e
        omega
end
theorem gives_con {w : Wd} {t : Tr} (h : t.ok) (hw : ∀ k ps, t = .t k ps → ps.length ≠ 1) : gives w.flip (con t) = (gives w t).map con := by
  cases t with
  | b i => rw [con]; rfl
  | t k ps =>
    rw [Tr.ok] at h
    have := word_con h.1 h.2.1 (by have := hw k ps rfl; omega)
    rw [con, gives_t, gives_t, cons_len, this]
    by_cases c : w ≠ .some ∧ wordOf k ps.length = w
    · have d : w.flip ≠ .some ∧ (wordOf k ps.length).flip = w.flip := ⟨fun q => c.1 (flip_inj (b := .some) q), by rw [c.2]⟩
      rw [if_pos c, if_pos d, cons_eq]
    · have d : ¬ (w.flip ≠ .some ∧ (wordOf k ps.length).flip = w.flip) := fun q => c ⟨fun z => q.1 (by rw [z]; rfl), flip_inj q.2⟩
      rw [if_neg c, if_neg d, List.map_singleton, con]
theorem flat_con {w : Wd} : ∀ {l : List Tr}, (∀ t ∈ l, t.ok ∧ ∀ k ps, t = .t k ps → ps.length ≠ 1) → (l.map con).flatMap (gives w.flip) = (l.flatMap (gives w)).map con
  | [], _ => rfl
  | p :: r, h => by
    have hp := h p List.mem_cons_self
    rw [List.map_cons, List.flatMap_cons, List.flatMap_cons, List.map_append, gives_con hp.1 hp.2, flat_con fun t ht => h t (List.mem_cons_of_mem _ ht)]
theorem joined_con {k : Int} {inner : List Tr} (h1 : 1 ≤ k) (h2 : k ≤ inner.length) (h3 : inner.length ≠ 1) (hi : ∀ t ∈ inner, t.ok ∧ ∀ k ps, t = .t k ps → ps.length ≠ 1) :
    joined ((inner.length : Int) - k + 1) (inner.map con) = con (joined k inner) := by
  have hw := word_con h1 h2 (by omega)
  have hl := (sort_perm (inner.flatMap (gives (wordOf k inner.length)))).length_eq
  unfold joined
  rw [con, List.length_map, hw, flat_con hi, ← sort_con, cons_eq, List.length_map, hl]
  congr 1
  cases h : wordOf k inner.length with
  | one =>
    have : k = 1 := by
      unfold wordOf at h
      by_cases c : k = 1
      · exact c
      · rw [if_neg c] at h
        split at h <;> cases h
    rw [if_pos (show Wd.one.flip = Wd.all from rfl), if_neg (show ¬ Wd.one = Wd.all by intro z; cases z), this]
    omega
  | all =>
    have : k = inner.length := by
      unfold wordOf at h
      by_cases c : k = 1
      · rw [if_pos c] at h
        cases h
      · rw [if_neg c] at h
        by_cases d : k = inner.length
        · exact d
        · rw [if_neg d] at h
          cases h
    rw [if_neg (show ¬ Wd.all.flip = Wd.all by intro z; cases z), if_pos (show Wd.all = Wd.all from rfl), this]
    omega
  | some =>
    rw [if_neg (show ¬ Wd.some.flip = Wd.all by intro z; cases z), if_neg (show ¬ Wd.some = Wd.all by intro z; cases z), gives_some]
mutual
theorem tell_two : ∀ t : Tr, t.ok → ∀ k ps, tell t = .t k ps → ps.length ≠ 1
  | .b i, _, k, ps, e => by rw [tell] at e; cases e
  | .t k qs, h, k', ps, e => by
    rw [Tr.ok] at h
    rw [tell] at e
    have ht := tells_two qs h.2.2
    obtain ⟨a1, _, _⟩ := tells_like qs h.2.2
    have hl := tells_len qs
    by_cases one : (tells qs).length = 1
    · match hq : tells qs, one with
      | [p], _ =>
        rw [hq, fold1] at e
        rw [hq] at ht
        exact ht p (List.mem_singleton.mpr rfl) k' ps e
    · rw [fold_ne one] at e
      unfold joined at e
      injection e with _ e2
      have hp := (sort_perm ((tells qs).flatMap (gives (wordOf k (tells qs).length)))).length_eq
      have hf := flat_len (w := wordOf k (tells qs).length) a1
      rw [← e2, hp]
      omega
theorem tells_two : ∀ ps : List Tr, Tr.oks ps → ∀ t ∈ tells ps, ∀ k qs, t = .t k qs → qs.length ≠ 1
  | [], _, t, ht, _, _, _ => by rw [tells] at ht; exact nomatch ht
  | p :: r, h, t, ht, k, qs, e => by
    rw [Tr.oks] at h
    rw [tells] at ht
    rcases List.mem_cons.mp ht with z | z
    · rw [z] at e
      exact tell_two p h.1 k qs e
    · exact tells_two r h.2 t z k qs e
end
/-! told and contrary come to one either way -/
mutual
theorem tell_con : ∀ t : Tr, t.ok → tell (con t) = con (tell t)
  | .b i, _ => by rw [con, tell, con]
  | .t k ps, h => by
    rw [Tr.ok] at h
    have e := tells_con ps h.2.2
    have hl := tells_len ps
    rw [con, tell, tell, e]
    by_cases one : (tells ps).length = 1
    · match hq : tells ps, one with
      | [p], _ => rw [List.map_singleton, fold1, fold1]
    · rw [fold_ne one, fold_ne (by rw [List.length_map]; exact one), ← hl]
      exact joined_con h.1 (by rw [hl]; exact h.2.1) one fun t ht => ⟨(tells_like ps h.2.2).1 t ht, tells_two ps h.2.2 t ht⟩
theorem tells_con : ∀ ps : List Tr, Tr.oks ps → tells (cons ps) = (tells ps).map con
  | [], _ => by rw [cons, tells]; rfl
  | p :: r, h => by
    rw [Tr.oks] at h
    rw [cons, tells, tells, tell_con p h.1, tells_con r h.2]
    rfl
end
end Own

namespace Own
open PySem PySem.Spec PyProof.Rows L2

/-! ### trees in order: the least button stands ahead -/
mutual
def Tr.srt : Tr → Prop
  | .b _ => True
  | .t _ ps => (∀ x ∈ Tr.helds ps, Tr.leasts ps ≤ x) ∧ Tr.srts ps
def Tr.srts : List Tr → Prop
  | [] => True
  | p :: r => p.srt ∧ Tr.srts r
end
theorem srts_all : ∀ {ps : List Tr}, Tr.srts ps ↔ ∀ p ∈ ps, p.srt
  | [] => by simp [Tr.srts]
  | p :: r => by simp [Tr.srts, srts_all (ps := r)]
theorem srt_min {t : Tr} (h : t.srt) : ∀ x ∈ t.held, t.least ≤ x := by
  cases t with
  | b i =>
    intro x hx
    rw [Tr.held, List.mem_singleton] at hx
    rw [hx, Tr.least]
    exact Int.le_refl _
  | t k ps =>
    rw [Tr.srt] at h
    rw [Tr.held, Tr.least]
    exact h.1
theorem le_helds {q : Tr} {r : List Tr} (h1 : ∀ p ∈ q :: r, p.srt) (h2 : ∀ p ∈ r, q.least ≤ p.least) : ∀ x ∈ Tr.helds (q :: r), q.least ≤ x := by
  intro x hx
  rw [helds_eq] at hx
  obtain ⟨p, hp, hxp⟩ := List.mem_flatMap.mp hx
  have := srt_min (h1 p hp) x hxp
  rcases List.mem_cons.mp hp with e | e
  · rw [e] at this; exact this
  · exact Int.le_trans (h2 p e) this
theorem sort_pw (l : List Tr) : (sortT l).Pairwise fun a b => a.least ≤ b.least := by
  have := List.pairwise_mergeSort (le := fun a b : Tr => decide (a.least ≤ b.least)) (fun a b c h1 h2 => decide_eq_true (Int.le_trans (of_decide_eq_true h1) (of_decide_eq_true h2)))
    (fun a b => by
      rcases Int.le_total a.least b.least with z | z
      · simp [z]
      · simp [z]) l
  exact this.imp fun h => of_decide_eq_true h
theorem sort_srt {l : List Tr} (h : ∀ p ∈ l, p.srt) : (∀ x ∈ Tr.helds (sortT l), Tr.leasts (sortT l) ≤ x) ∧ Tr.srts (sortT l) := by
  have hm : ∀ p ∈ sortT l, p.srt := fun p hp => h p ((sort_perm l).mem_iff.mp hp)
  refine ⟨?_, srts_all.mpr hm⟩
  have hp := sort_pw l
  generalize sortT l = m at hm hp
  cases m with
  | nil => intro x hx; rw [Tr.helds] at hx; exact nomatch hx
  | cons q r =>
    rw [Tr.leasts]
    exact le_helds hm fun p hpr => (List.pairwise_cons.mp hp).1 p hpr
theorem gives_srt (w : Wd) {t : Tr} (h : t.srt) : ∀ p ∈ gives w t, p.srt := by
  cases t with
  | b i => exact fun p hp => by rw [List.mem_singleton.mp hp]; exact h
  | t k ps =>
    rw [gives_t]
    split
    · rw [Tr.srt] at h
      exact srts_all.mp h.2
    · exact fun p hp => by rw [List.mem_singleton.mp hp]; exact h
mutual
theorem tell_srt : ∀ t : Tr, (tell t).srt
  | .b i => by rw [tell, Tr.srt]; trivial
  | .t k ps => by
    have h := tells_srt ps
    rw [tell]
    by_cases one : (tells ps).length = 1
    · match hq : tells ps, one with
      | [p], _ =>
        rw [hq] at h
        rw [fold1]
        exact h p (List.mem_singleton.mpr rfl)
    · rw [fold_ne one]
      unfold joined
      rw [Tr.srt]
      exact sort_srt fun p hp => by
        obtain ⟨q, hq1, hq2⟩ := List.mem_flatMap.mp hp
        exact gives_srt _ (h q hq1) p hq2
theorem tells_srt : ∀ ps : List Tr, ∀ p ∈ tells ps, p.srt
  | [], p, hp => by rw [tells] at hp; exact nomatch hp
  | q :: r, p, hp => by
    rw [tells] at hp
    rcases List.mem_cons.mp hp with e | e
    · rw [e]; exact tell_srt q
    · exact tells_srt r p e
end
/-- the law's own word for a part that is told within its trip -/
theorem so_word {k j n m : Int} (hn : n ≠ 1) (hm : m ≠ 1) : ((k = 1 ∧ j = 1) ∨ (k = n ∧ j = m)) ↔ (wordOf k n ≠ .some ∧ wordOf j m = wordOf k n) := by
  unfold wordOf
  by_cases a : k = 1
  · have b : ¬ k = n := by omega
    rw [if_pos a]
    by_cases c : j = 1
    · rw [if_pos c]
      exact ⟨fun _ => ⟨(by intro z; cases z), rfl⟩, fun _ => .inl ⟨a, c⟩⟩
    · rw [if_neg c]
      refine ⟨fun h => ?_, fun h => ?_⟩
      · rcases h with h | h
        · exact absurd h.2 c
        · exact absurd h.1 b
      · have := h.2
        split at this <;> cases this
  · rw [if_neg a]
    by_cases b : k = n
    · rw [if_pos b]
      by_cases c : j = m
      · have d : ¬ j = 1 := by omega
        rw [if_neg d, if_pos c]
        exact ⟨fun _ => ⟨(by intro z; cases z), rfl⟩, fun _ => .inr ⟨b, c⟩⟩
      · refine ⟨fun h => ?_, fun h => ?_⟩
        · rcases h with h | h
          · exact absurd h.1 a
          · exact absurd h.2 c
        · have := h.2
          rw [if_neg c] at this
          split at this <;> cases this
    · rw [if_neg b]
      refine ⟨fun h => ?_, fun h => absurd rfl h.1⟩
      rcases h with h | h
      · exact absurd h.1 a
      · exact absurd h.1 b
/-! ### plain trees: what telling leaves as it is -/
def partAs (w : Wd) : Tr → Prop
  | .b _ => False
  | .t k ps => wordOf k ps.length = w
mutual
def Tr.plain : Tr → Prop
  | .b _ => True
  | .t k ps => ps.length ≠ 1 ∧ (wordOf k ps.length ≠ .some → ∀ p ∈ ps, ¬ partAs (wordOf k ps.length) p) ∧ ps.Pairwise (fun a b => a.least ≤ b.least) ∧ Tr.plains ps
def Tr.plains : List Tr → Prop
  | [] => True
  | p :: r => p.plain ∧ Tr.plains r
end
theorem plains_all : ∀ {ps : List Tr}, Tr.plains ps ↔ ∀ p ∈ ps, p.plain
  | [] => by simp [Tr.plains]
  | p :: r => by simp [Tr.plains, plains_all (ps := r)]
theorem gives_one {w : Wd} {t : Tr} (h : w ≠ .some → ¬ partAs w t) : gives w t = [t] := by
  cases t with
  | b i => rfl
  | t k ps =>
    rw [gives_t, if_neg]
    exact fun q => h q.1 q.2
theorem flat_one {w : Wd} : ∀ {l : List Tr}, (w ≠ .some → ∀ p ∈ l, ¬ partAs w p) → l.flatMap (gives w) = l
  | [], _ => rfl
  | p :: r, h => by
    rw [List.flatMap_cons, gives_one fun q => h q p List.mem_cons_self, flat_one fun q t ht => h q t (List.mem_cons_of_mem _ ht)]
    rfl
theorem sort_id {l : List Tr} (h : l.Pairwise fun a b => a.least ≤ b.least) : sortT l = l :=
  List.mergeSort_of_pairwise (h.imp fun q => decide_eq_true q)
mutual
theorem tell_plain : ∀ t : Tr, t.plain → tell t = t
  | .b i, _ => by rw [tell]
  | .t k ps, h => by
    rw [Tr.plain] at h
    obtain ⟨h1, h2, h3, h4⟩ := h
    rw [tell, tells_plain ps h4, fold_ne h1]
    unfold joined
    rw [flat_one h2, sort_id h3]
    congr 1
    split
    · rename_i c
      unfold wordOf at c
      by_cases a : k = 1
      · rw [if_pos a] at c
        cases c
      · rw [if_neg a] at c
        by_cases b : k = (ps.length : Int)
        · exact b.symm
        · rw [if_neg b] at c
          cases c
    · rfl
theorem tells_plain : ∀ ps : List Tr, Tr.plains ps → tells ps = ps
  | [], _ => by rw [tells]
  | p :: r, h => by
    rw [Tr.plains] at h
    rw [tells, tell_plain p h.1, tells_plain r h.2]
end
/-! telling leaves a plain tree -/
theorem word_joined {k : Int} {inner : List Tr} (h1 : 1 ≤ k) (h3 : inner.length ≠ 1) (h2 : k ≤ inner.length) (hf : inner.length ≤ (inner.flatMap (gives (wordOf k inner.length))).length) :
    wordOf (if wordOf k inner.length = .all then ((inner.flatMap (gives (wordOf k inner.length))).length : Int) else k) (inner.flatMap (gives (wordOf k inner.length))).length = wordOf k inner.length := by
  cases hw : wordOf k inner.length with
  | one =>
    rw [hw] at hf
    have : k = 1 := by
      unfold wordOf at hw
      by_cases c : k = 1
      · exact c
      · rw [if_neg c] at hw
        split at hw <;> cases hw
    rw [if_neg (show ¬ Wd.one = Wd.all by intro z; cases z)]
    unfold wordOf
    rw [if_pos this]
  | all =>
    rw [hw] at hf
    rw [if_pos rfl]
    unfold wordOf
    rw [if_neg (by omega), if_pos rfl]
  | some =>
    rw [if_neg (show ¬ Wd.some = Wd.all by intro z; cases z), gives_some]
    exact hw
theorem gives_apart {w : Wd} {t : Tr} (hw : w ≠ .some) (h : t.plain) : ∀ p ∈ gives w t, p.plain ∧ ¬ partAs w p := by
  cases t with
  | b i => exact fun p hp => by rw [List.mem_singleton.mp hp]; exact ⟨h, id⟩
  | t k ps =>
    rw [gives_t]
    by_cases c : w ≠ .some ∧ wordOf k ps.length = w
    · rw [if_pos c]
      rw [Tr.plain] at h
      obtain ⟨_, h2, _, h4⟩ := h
      rw [c.2] at h2
      exact fun p hp => ⟨plains_all.mp h4 p hp, h2 hw p hp⟩
    · rw [if_neg c]
      exact fun p hp => by
        rw [List.mem_singleton.mp hp]
        exact ⟨h, fun q => c ⟨hw, q⟩⟩
theorem gives_plain (w : Wd) {t : Tr} (h : t.plain) : ∀ p ∈ gives w t, p.plain := by
  by_cases hw : w = .some
  · subst hw
    cases t with
    | b i => exact fun p hp => by rw [List.mem_singleton.mp hp]; exact h
    | t k ps =>
      rw [gives_t, if_neg fun q => q.1 rfl]
      exact fun p hp => by rw [List.mem_singleton.mp hp]; exact h
  · exact fun p hp => (gives_apart hw h p hp).1
mutual
theorem plain_tell : ∀ t : Tr, t.ok → (tell t).plain
  | .b i, _ => by rw [tell, Tr.plain]; trivial
  | .t k ps, h => by
    rw [Tr.ok] at h
    have hp := plain_tells ps h.2.2
    obtain ⟨a1, _, _⟩ := tells_like ps h.2.2
    have hl := tells_len ps
    rw [tell]
    by_cases one : (tells ps).length = 1
    · match hq : tells ps, one with
      | [p], _ =>
        rw [hq] at hp
        rw [fold1]
        exact hp p (List.mem_singleton.mpr rfl)
    · rw [fold_ne one]
      have hf := flat_len (w := wordOf k (tells ps).length) a1
      have hs := sort_perm ((tells ps).flatMap (gives (wordOf k (tells ps).length)))
      have hw := word_joined h.1 one (by rw [hl]; exact h.2.1) hf
      unfold joined
      rw [Tr.plain, hs.length_eq, hw]
      refine ⟨by omega, fun hns p hpm => ?_, sort_pw _, plains_all.mpr fun p hpm => ?_⟩
      · obtain ⟨q, hq1, hq2⟩ := List.mem_flatMap.mp (hs.mem_iff.mp hpm)
        exact (gives_apart hns (hp q hq1) p hq2).2
      · obtain ⟨q, hq1, hq2⟩ := List.mem_flatMap.mp (hs.mem_iff.mp hpm)
        exact gives_plain _ (hp q hq1) p hq2
theorem plain_tells : ∀ ps : List Tr, Tr.oks ps → ∀ p ∈ tells ps, p.plain
  | [], _, p, hp => by rw [tells] at hp; exact nomatch hp
  | q :: r, h, p, hp => by
    rw [Tr.oks] at h
    rw [tells] at hp
    rcases List.mem_cons.mp hp with e | e
    · rw [e]; exact plain_tell q h.1
    · exact plain_tells r h.2 p e
end
theorem tell_iff {t : Tr} (h : t.ok) : tell t = t ↔ t.plain := ⟨fun e => e ▸ plain_tell t h, tell_plain t⟩
theorem tell_tell {t : Tr} (h : t.ok) : tell (tell t) = tell t := tell_plain _ (plain_tell t h)
/-! the same lots go -/
theorem sum_flat (L : List Int) : ∀ ps : List Tr, Tr.cnt L ps = (ps.filter fun p => p.go L).length
  | [] => by rw [Tr.cnt]; rfl
  | p :: r => by
    rw [Tr.cnt, sum_flat L r, List.filter_cons]
    cases h : p.go L
    · simp
    · simp
      omega
theorem cnt_perm {L : List Int} {A B : List Tr} (h : A.Perm B) : Tr.cnt L A = Tr.cnt L B := by
  rw [sum_flat, sum_flat]
  exact (h.filter _).length_eq
theorem cnt_app (L : List Int) : ∀ A B : List Tr, Tr.cnt L (A ++ B) = Tr.cnt L A + Tr.cnt L B
  | [], B => by rw [List.nil_append, Tr.cnt]; omega
  | p :: r, B => by rw [List.cons_append, Tr.cnt, Tr.cnt, cnt_app L r B]; omega
theorem cnt_most (L : List Int) (ps : List Tr) : Tr.cnt L ps ≤ ps.length := by
  rw [sum_flat]
  exact List.length_filter_le _ _
theorem word_one {k n : Int} (h : wordOf k n = .one) : k = 1 := by
  unfold wordOf at h
  by_cases c : k = 1
  · exact c
  · rw [if_neg c] at h
    split at h <;> cases h
theorem word_all {k n : Int} (h : wordOf k n = .all) : k = n := by
  unfold wordOf at h
  by_cases c : k = 1
  · rw [if_pos c] at h
    cases h
  · rw [if_neg c] at h
    by_cases d : k = n
    · exact d
    · rw [if_neg d] at h
      cases h
theorem one_gives (L : List Int) (t : Tr) : 1 ≤ Tr.cnt L (gives .one t) ↔ t.go L = true := by
  have base : ∀ u : Tr, 1 ≤ Tr.cnt L [u] ↔ u.go L = true := fun u => by
    rw [Tr.cnt, Tr.cnt]
    cases u.go L <;> simp
  cases t with
  | b i => exact base (.b i)
  | t k ps =>
    rw [gives_t]
    by_cases c : Wd.one ≠ .some ∧ wordOf k ps.length = .one
    · rw [if_pos c, Tr.go, word_one c.2, decide_eq_true_eq]
      omega
    · rw [if_neg c]
      exact base _
theorem one_flat (L : List Int) : ∀ l : List Tr, 1 ≤ Tr.cnt L (l.flatMap (gives .one)) ↔ 1 ≤ Tr.cnt L l
  | [] => Iff.rfl
  | p :: r => by
    have h1 := one_gives L p
    have h2 := one_flat L r
    rw [List.flatMap_cons, cnt_app, Tr.cnt]
    cases hp : p.go L with
    | true =>
      rw [hp] at h1
      have := h1.mpr rfl
      simp
      omega
    | false =>
      rw [hp] at h1
      have : ¬ 1 ≤ Tr.cnt L (gives .one p) := fun z => nomatch h1.mp z
      simp
      omega
theorem all_gives (L : List Int) (t : Tr) : Tr.cnt L (gives .all t) = (gives .all t).length ↔ t.go L = true := by
  have base : ∀ u : Tr, Tr.cnt L [u] = [u].length ↔ u.go L = true := fun u => by
    rw [Tr.cnt, Tr.cnt]
    cases u.go L <;> simp
  cases t with
  | b i => exact base (.b i)
  | t k ps =>
    rw [gives_t]
    by_cases c : Wd.all ≠ .some ∧ wordOf k ps.length = .all
    · have := cnt_most L ps
      rw [if_pos c, Tr.go, word_all c.2, decide_eq_true_eq]
      omega
    · rw [if_neg c]
      exact base _
theorem all_flat (L : List Int) : ∀ l : List Tr, Tr.cnt L (l.flatMap (gives .all)) = (l.flatMap (gives .all)).length ↔ Tr.cnt L l = l.length
  | [] => Iff.rfl
  | p :: r => by
    have h1 := all_gives L p
    have h2 := all_flat L r
    have m1 := cnt_most L (gives .all p)
    have m2 := cnt_most L (r.flatMap (gives .all))
    have m3 := cnt_most L r
    rw [List.flatMap_cons, cnt_app, Tr.cnt, List.length_append, List.length_cons]
    cases hp : p.go L with
    | true =>
      rw [hp] at h1
      have := h1.mpr rfl
      rw [if_pos rfl]
      omega
    | false =>
      rw [hp] at h1
      have : ¬ Tr.cnt L (gives .all p) = (gives .all p).length := fun z => nomatch h1.mp z
      rw [if_neg Bool.false_ne_true]
      omega
theorem go_joined {k : Int} {inner : List Tr} (L : List Int) (h1 : 1 ≤ k) (h2 : k ≤ inner.length) : (joined k inner).go L = decide (k ≤ (Tr.cnt L inner : Int)) := by
  unfold joined
  rw [Tr.go, cnt_perm (sort_perm _)]
  cases hw : wordOf k inner.length with
  | one =>
    have := one_flat L inner
    rw [if_neg (show ¬ Wd.one = Wd.all by intro z; cases z), word_one hw]
    by_cases c : 1 ≤ Tr.cnt L inner
    · rw [decide_eq_true (show (1 : Int) ≤ (Tr.cnt L inner : Int) by omega)]
      exact decide_eq_true (by have := this.mpr c; omega)
    · rw [decide_eq_false (show ¬ (1 : Int) ≤ (Tr.cnt L inner : Int) by omega)]
      exact decide_eq_false fun z => c (this.mp (by omega))
  | all =>
    have := all_flat L inner
    have m1 := cnt_most L inner
    have m2 := cnt_most L (inner.flatMap (gives .all))
    rw [if_pos rfl, word_all hw]
    by_cases c : Tr.cnt L inner = inner.length
    · rw [decide_eq_true (show (inner.length : Int) ≤ (Tr.cnt L inner : Int) by omega)]
      exact decide_eq_true (by have := this.mpr c; omega)
    · rw [decide_eq_false (show ¬ (inner.length : Int) ≤ (Tr.cnt L inner : Int) by omega)]
      exact decide_eq_false fun z => c (this.mp (by omega))
  | some =>
    rw [if_neg (show ¬ Wd.some = Wd.all by intro z; cases z), gives_some]
mutual
theorem go_tell (L : List Int) : ∀ t : Tr, t.ok → (tell t).go L = t.go L
  | .b i, _ => by rw [tell]
  | .t k ps, h => by
    rw [Tr.ok] at h
    have hc := cnt_tells L ps h.2.2
    have hl := tells_len ps
    rw [tell]
    by_cases one : (tells ps).length = 1
    · match hq : tells ps, one with
      | [p], _ =>
        rw [hq] at hc hl
        rw [fold1, Tr.go, ← hc, Tr.cnt, Tr.cnt]
        have hk : k = 1 := by
          have := h.2.1
          rw [← hl] at this
          simp at this
          omega
        rw [hk]
        cases p.go L <;> simp
    · rw [fold_ne one, go_joined L h.1 (by rw [hl]; exact h.2.1), hc, Tr.go]
theorem cnt_tells (L : List Int) : ∀ ps : List Tr, Tr.oks ps → Tr.cnt L (tells ps) = Tr.cnt L ps
  | [], _ => by rw [tells]
  | p :: r, h => by
    rw [Tr.oks] at h
    rw [tells, Tr.cnt, Tr.cnt, go_tell L p h.1, cnt_tells L r h.2]
end
end Own

namespace Own
open PySem PySem.Spec PyProof.Rows L2

/-! ### all things in a tree, in order; ways -/
mutual
def subs : Tr → List Tr
  | .b i => [.b i]
  | .t k ps => .t k ps :: subss ps
def subss : List Tr → List Tr
  | [] => []
  | p :: r => subs p ++ subss r
end
theorem subss_app : ∀ a b : List Tr, subss (a ++ b) = subss a ++ subss b
  | [], b => by rw [List.nil_append, subss, List.nil_append]
  | x :: a, b => by rw [List.cons_append, subss, subss, subss_app a b, List.append_assoc]
theorem mem_subss {s : Tr} : ∀ {ps : List Tr}, s ∈ subss ps ↔ ∃ p ∈ ps, s ∈ subs p
  | [] => by simp [subss]
  | p :: r => by
    rw [subss, List.mem_append, mem_subss (ps := r)]
    simp
theorem self_subs (t : Tr) : t ∈ subs t := by
  cases t with
  | b i => simp [subs]
  | t k ps => rw [subs]; exact List.mem_cons_self
/-- the thing to which a way leads -/
def toward : Tr → List Int → Option Tr
  | t, [] => some t
  | .b _, _ :: _ => none
  | .t _ ps, i :: w => if 0 ≤ i then (match ps[i.toNat]? with | some p => toward p w | none => none) else none
theorem toward_nil (t : Tr) : toward t [] = some t := by cases t <;> rfl
theorem toward_cons {k : Int} {ps : List Tr} {i : Int} {w : List Int} {s : Tr} (h : toward (.t k ps) (i :: w) = some s) : 0 ≤ i ∧ ∃ p, ps[i.toNat]? = some p ∧ toward p w = some s := by
  rw [toward] at h
  split at h
  · rename_i h0
    cases hp : ps[i.toNat]? with
    | none => rw [hp] at h; cases h
    | some p => rw [hp] at h; exact ⟨h0, p, rfl, h⟩
  · cases h
theorem toward_mk {k : Int} {ps : List Tr} {i : Int} {w : List Int} {p : Tr} (h0 : 0 ≤ i) (hp : ps[i.toNat]? = some p) : toward (.t k ps) (i :: w) = toward p w := by
  rw [toward, if_pos h0, hp]
theorem toward_snoc {k : Int} {ps : List Tr} {i : Nat} {p : Tr} : ∀ {w : List Int} {t : Tr}, toward t w = some (.t k ps) → ps[i]? = some p → toward t (w ++ [(i : Int)]) = some p
  | [], t, h, hp => by
    rw [toward_nil] at h
    cases h
    rw [List.nil_append, toward_mk (Int.natCast_nonneg i) (p := p) (by rw [Int.toNat_natCast]; exact hp), toward_nil]
  | j :: w, .b _, h, _ => by
    rw [toward] at h
    cases h
  | j :: w, .t _ qs, h, hp => by
    obtain ⟨h0, q, hq, hr⟩ := toward_cons h
    rw [List.cons_append, toward_mk h0 hq]
    exact toward_snoc hr hp
/-- a tree with another thing where a way leads -/
def putAt : Tr → List Int → Tr → Tr
  | _, [], u => u
  | .b i, _ :: _, _ => .b i
  | .t k ps, i :: w, u => .t k (ps.set i.toNat (putAt (ps.getD i.toNat (.b 0)) w u))
theorem putAt_nil (t u : Tr) : putAt t [] u = u := by cases t <;> rfl
theorem putAt_cons {k : Int} {ps : List Tr} {i : Int} {w : List Int} {p u : Tr} (hp : ps[i.toNat]? = some p) : putAt (.t k ps) (i :: w) u = .t k (ps.set i.toNat (putAt p w u)) := by
  rw [putAt, List.getD_eq_getElem?_getD, hp]
  rfl
/-- nothing new but a place more -/
structure Under (s u : Tr) : Prop where
  ok : u.ok
  deep : u.deep ≤ s.deep + 1
  few : u.held.length ≤ s.held.length
  sub : ∀ x ∈ u.held, x ∈ s.held
theorem set_few {q : Tr} : ∀ {ps : List Tr} {i : Nat} {p : Tr}, ps[i]? = some p → q.held.length ≤ p.held.length → (Tr.helds (ps.set i q)).length ≤ (Tr.helds ps).length
  | [], _, _, h, _ => by simp at h
  | r :: ps, 0, p, h, hq => by
    simp at h
    subst h
    rw [List.set_cons_zero, Tr.helds, Tr.helds, List.length_append, List.length_append]
    omega
  | r :: ps, i + 1, p, h, hq => by
    have := set_few (ps := ps) (i := i) (p := p) (by simpa using h) hq
    rw [List.set_cons_succ, Tr.helds, Tr.helds, List.length_append, List.length_append]
    omega
theorem Under.put {u s : Tr} (h : Under s u) : ∀ {w : List Int} {t : Tr}, t.ok → toward t w = some s → Under t (putAt t w u)
  | [], t, _, e => by
    rw [toward_nil] at e
    cases e
    rw [putAt_nil]
    exact h
  | i :: w, .b _, _, e => by
    rw [toward] at e
    cases e
  | i :: w, .t k ps, o, e => by
    obtain ⟨h0, p, hp, hr⟩ := toward_cons e
    rw [Tr.ok] at o
    have hm := List.mem_of_getElem? hp
    have ih := Under.put h (t := p) (oks_all.mp o.2.2 p hm) hr
    rw [putAt_cons hp]
    have hd := deep_get hp
    refine ⟨?_, ?_, ?_, ?_⟩
    · rw [Tr.ok, List.length_set]
      refine ⟨o.1, o.2.1, oks_all.mpr fun q hq => ?_⟩
      rcases List.mem_or_eq_of_mem_set hq with z | z
      · exact oks_all.mp o.2.2 q z
      · rw [z]; exact ih.ok
    · rw [Tr.deep, Tr.deep]
      have : Tr.deeps (ps.set i.toNat (putAt p w u)) ≤ Tr.deeps ps + 1 := deeps_le.mpr fun q hq => by
        rcases List.mem_or_eq_of_mem_set hq with z | z
        · have := (deeps_le (n := Tr.deeps ps)).mp (Nat.le_refl _) q z
          omega
        · rw [z]
          have := ih.deep
          omega
      omega
    · rw [Tr.held, Tr.held]
      exact set_few hp ih.few
    · rw [Tr.held, Tr.held]
      intro x hx
      rw [helds_eq, List.mem_flatMap] at hx ⊢
      obtain ⟨q, hq, hxq⟩ := hx
      rcases List.mem_or_eq_of_mem_set hq with z | z
      · exact ⟨q, z, hxq⟩
      · rw [z] at hxq
        exact ⟨p, hm, ih.sub x hxq⟩
/-! ### the law's own look at plain trees -/
def IsMin (m : Int) (L : List Int) : Prop := m ∈ L ∧ ∀ x ∈ L, m ≤ x
theorem IsMin.one {m m' : Int} {L : List Int} (h : IsMin m L) (h' : IsMin m' L) : m = m' := by
  have h1 := h.2 m' h'.1
  have h2 := h'.2 m h.1
  omega
mutual
theorem least_mem : ∀ t : Tr, t.ok → t.least ∈ t.held
  | .b i, _ => by rw [Tr.least, Tr.held]; exact List.mem_singleton.mpr rfl
  | .t k ps, h => by
    rw [Tr.ok] at h
    rw [Tr.least, Tr.held]
    exact leasts_mem ps h.2.2 (by omega)
theorem leasts_mem : ∀ ps : List Tr, Tr.oks ps → 1 ≤ ps.length → Tr.leasts ps ∈ Tr.helds ps
  | [], _, h => absurd h (by simp)
  | p :: r, h, _ => by
    rw [Tr.oks] at h
    rw [Tr.leasts, Tr.helds]
    exact List.mem_append_left _ (least_mem p h.1)
end
theorem min_least {t : Tr} {m : Int} (h : IsMin m t.held) (ho : t.ok) (hs : t.srt) : m = t.least := by
  have h1 := h.2 _ (least_mem t ho)
  have h2 := srt_min hs m h.1
  omega
noncomputable def minOf (t : Tr) : Int := open Classical in if h : ∃ m, IsMin m t.held then h.choose else 0
theorem min_of {t : Tr} {m : Int} (h : IsMin m t.held) : m = minOf t := by
  unfold minOf
  rw [dif_pos ⟨m, h⟩]
  exact h.one (Exists.choose_spec (⟨m, h⟩ : ∃ m, IsMin m t.held))
def goodPart (k n : Int) : Tr → Prop
  | .b _ => True
  | .t j qs => ¬ ((k = 1 ∧ j = 1) ∨ (k = n ∧ j = (qs.length : Int)))
def good : Tr → Prop
  | .b _ => True
  | .t k ps => ps.length ≠ 1 ∧ (∀ p ∈ ps, goodPart k ps.length p) ∧ (ps.map minOf).Pairwise (· ≤ ·)
theorem srt_plain {t : Tr} (h : t.plain) : t.srt := by
  rw [← tell_plain t h]
  exact tell_srt t
theorem minOf_least {t : Tr} (h : t.plain) (o : t.ok) : minOf t = t.least := by
  have hm : IsMin t.least t.held := ⟨least_mem t o, srt_min (srt_plain h)⟩
  exact (min_of hm).symm
theorem part_good {k : Int} {ps : List Tr} {p : Tr} (hn : ps.length ≠ 1) (hp : p.plain) : goodPart k ps.length p ↔ (wordOf k ps.length ≠ .some → ¬ partAs (wordOf k ps.length) p) := by
  cases p with
  | b i => exact ⟨fun _ _ h => h, fun _ => trivial⟩
  | t j qs =>
    rw [Tr.plain] at hp
    have := so_word (k := k) (j := j) (n := (ps.length : Int)) (m := (qs.length : Int)) (by omega) (by have := hp.1; omega)
    exact ⟨fun h a b => h (this.mpr ⟨a, b⟩), fun h q => h (this.mp q).1 (this.mp q).2⟩
mutual
theorem good_plain : ∀ t : Tr, t.ok → ((∀ s ∈ subs t, good s) ↔ t.plain)
  | .b i, _ => by
    rw [Tr.plain]
    exact ⟨fun _ => trivial, fun _ s hs => by rw [subs, List.mem_singleton] at hs; rw [hs]; trivial⟩
  | .t k ps, o => by
    rw [Tr.ok] at o
    have ih := goods_plain ps o.2.2
    rw [Tr.plain, subs]
    constructor
    · intro h
      have h1 : ∀ s ∈ subss ps, good s := fun s hs => h s (List.mem_cons_of_mem _ hs)
      have hp := ih.mp h1
      obtain ⟨g1, g2, g3⟩ : good (.t k ps) := h _ List.mem_cons_self
      refine ⟨g1, fun hw p hm => (part_good g1 (plains_all.mp hp p hm)).mp (g2 p hm) hw, ?_, hp⟩
      rw [List.pairwise_map] at g3
      refine g3.imp_of_mem fun {a b} ha hb q => ?_
      rw [minOf_least (plains_all.mp hp a ha) (oks_all.mp o.2.2 a ha), minOf_least (plains_all.mp hp b hb) (oks_all.mp o.2.2 b hb)] at q
      exact q
    · rintro ⟨g1, g2, g3, hp⟩ s hs
      rcases List.mem_cons.mp hs with rfl | z
      · refine ⟨g1, fun p hm => (part_good g1 (plains_all.mp hp p hm)).mpr fun hw => g2 hw p hm, ?_⟩
        rw [List.pairwise_map]
        refine g3.imp_of_mem fun {a b} ha hb q => ?_
        rw [minOf_least (plains_all.mp hp a ha) (oks_all.mp o.2.2 a ha), minOf_least (plains_all.mp hp b hb) (oks_all.mp o.2.2 b hb)]
        exact q
      · exact ih.mpr hp s z
theorem goods_plain : ∀ ps : List Tr, Tr.oks ps → ((∀ s ∈ subss ps, good s) ↔ Tr.plains ps)
  | [], _ => by
    rw [Tr.plains, subss]
    exact ⟨fun _ => trivial, fun _ s hs => (nomatch hs)⟩
  | p :: r, o => by
    rw [Tr.oks] at o
    have h1 := good_plain p o.1
    have h2 := goods_plain r o.2
    rw [Tr.plains, subss, ← h1, ← h2]
    exact ⟨fun h => ⟨fun s hs => h s (List.mem_append_left _ hs), fun s hs => h s (List.mem_append_right _ hs)⟩, fun h s hs => (List.mem_append.mp hs).elim (h.1 s) (h.2 s)⟩
end
mutual
theorem subs_ok : ∀ t : Tr, t.ok → ∀ s ∈ subs t, s.ok ∧ s.deep ≤ t.deep ∧ s.held.length ≤ t.held.length
  | .b i, _, s, hs => by
    rw [subs, List.mem_singleton] at hs
    rw [hs]
    exact ⟨by rw [Tr.ok]; trivial, Nat.le_refl _, Nat.le_refl _⟩
  | .t k ps, o, s, hs => by
    rw [subs] at hs
    rcases List.mem_cons.mp hs with rfl | z
    · exact ⟨o, Nat.le_refl _, Nat.le_refl _⟩
    · rw [Tr.ok] at o
      obtain ⟨a, b, c⟩ := subss_ok ps o.2.2 s z
      rw [Tr.deep, Tr.held]
      exact ⟨a, by omega, c⟩
theorem subss_ok : ∀ ps : List Tr, Tr.oks ps → ∀ s ∈ subss ps, s.ok ∧ s.deep ≤ Tr.deeps ps ∧ s.held.length ≤ (Tr.helds ps).length
  | [], _, s, hs => by
    rw [subss] at hs
    cases hs
  | p :: r, o, s, hs => by
    rw [Tr.oks] at o
    rw [subss] at hs
    rw [Tr.deeps, Tr.helds, List.length_append]
    rcases List.mem_append.mp hs with z | z
    · obtain ⟨a, b, c⟩ := subs_ok p o.1 s z
      exact ⟨a, by omega, by omega⟩
    · obtain ⟨a, b, c⟩ := subss_ok r o.2 s z
      exact ⟨a, by omega, by omega⟩
end
/-! parts of rows of trees -/
theorem Ats.take {H : Hp} : ∀ {vs : List V} {ts : List Tr}, Ats H vs ts → ∀ n, Ats H (vs.take n) (ts.take n)
  | _, _, .nil, n => by rw [List.take_nil, List.take_nil]; exact .nil
  | _, _, .cons a b, 0 => by rw [List.take_zero, List.take_zero]; exact .nil
  | _, _, .cons a b, n + 1 => by rw [List.take_succ_cons, List.take_succ_cons]; exact .cons a (b.take n)
theorem Ats.drop {H : Hp} : ∀ {vs : List V} {ts : List Tr}, Ats H vs ts → ∀ n, Ats H (vs.drop n) (ts.drop n)
  | _, _, .nil, n => by rw [List.drop_nil, List.drop_nil]; exact .nil
  | _, _, .cons a b, 0 => .cons a b
  | _, _, .cons a b, n + 1 => by rw [List.drop_succ_cons, List.drop_succ_cons]; exact b.drop n
theorem Ats.set {H : Hp} {vs : List V} {ts : List Tr} {v : V} {t : Tr} {i : Nat} (h : Ats H vs ts) (ha : At H v t) (hi : i < vs.length) : Ats H (vs.take i ++ [v] ++ vs.drop (i + 1)) (ts.set i t) := by
  have hl := h.length
  rw [List.set_eq_take_append_cons_drop, if_pos (by omega), List.append_assoc]
  exact (h.take i).append (.cons ha (h.drop (i + 1)))
end Own

namespace Own
open PySem PySem.Spec PyProof.Rows L2
/-! ### tuples: sums and parts, told without their ways -/
theorem catA_go {K : PySem.W.Frag} {H : Hp} {a b : Addr} {xs ys : List V} {Q : VK} (ha : H a = some (.tup xs)) (hb : H b = some (.tup ys)) (hl : xs.length + ys.length ≤ 100000)
    (k : ∀ (p : Addr) (H' : Hp), Same H H' → H' p = some (.tup (xs ++ ys)) → Q (.ref p) H') : rCatA K (.ref a) (.ref b) H Q := by
  refine ⟨a, b, xs, ys, rfl, rfl, SqT.of ha, SqT.of hb, Nat.le_trans hl (by decide), fun h => ?_, fun _ h => ?_, fun _ _ p hp => ?_⟩
  · exact k b H (Same.refl H) (by rw [h]; exact hb)
  · exact k a H (Same.refl H) (by rw [h, List.append_nil]; exact ha)
  · exact k p _ (same_upd _ hp) upd_same
theorem cut_all {xs : List V} {lo hi : Option Int} (h : HT.sIx xs.length 0 lo = 0 ∧ HT.sIx xs.length xs.length hi = xs.length) : cutV xs lo hi = xs := by
  unfold cutV
  rw [h.1, h.2, List.drop_zero, Nat.sub_zero, List.take_length]
theorem slA_go {K : PySem.W.Frag} {H : Hp} {a : Addr} {xs : List V} {lo hi : Option Int} {Q : VK} (ha : H a = some (.tup xs))
    (k : ∀ (p : Addr) (H' : Hp), Same H H' → H' p = some (.tup (cutV xs lo hi)) → Q (.ref p) H') : rSlA K (.ref a) lo hi H Q := by
  refine ⟨a, xs, rfl, SqT.of ha, fun h => ?_, fun _ p hp => ?_⟩
  · exact k a H (Same.refl H) (by rw [cut_all h]; exact ha)
  · exact k p _ (same_upd _ hp) upd_same
/-- a part of a tuple up to a place, from a place on -/
theorem slA_to {K : PySem.W.Frag} {H : Hp} {a : Addr} {xs : List V} {n : Int} {Q : VK} (ha : H a = some (.tup xs)) (h0 : 0 ≤ n)
    (k : ∀ (p : Addr) (H' : Hp), Same H H' → H' p = some (.tup (xs.take n.toNat)) → Q (.ref p) H') : rSlA K (.ref a) none (some n) H Q :=
  slA_go ha fun p H' e h => k p H' e (by
    rw [h]
    obtain ⟨m, rfl⟩ : ∃ m : Nat, n = m := ⟨n.toNat, by omega⟩
    unfold cutV
    rw [HT.sIx_none, HT.sIx_nat, List.drop_zero, Int.toNat_natCast, Nat.sub_zero]
    congr 2
    rw [List.take_eq_take_iff]
    omega)
theorem slA_from {K : PySem.W.Frag} {H : Hp} {a : Addr} {xs : List V} {n : Int} {Q : VK} {σ : L2.St} (ha : H a = some (.tup xs)) (h0 : 0 ≤ n)
    (k : ∀ (p : Addr) (H' : Hp), Same H H' → H' p = some (.tup (xs.drop n.toNat)) → Q (.ref p) H') : tNoPart σ H fun u H3 => rSlA K (.ref a) (some n) u H3 Q :=
  show rSlA K (.ref a) (some n) none H Q from slA_go ha fun p H' e h => k p H' e (by
    rw [h]
    obtain ⟨m, rfl⟩ : ∃ m : Nat, n = m := ⟨n.toNat, by omega⟩
    unfold cutV
    rw [HT.sIx_none, HT.sIx_nat, Int.toNat_natCast, List.take_of_length_le (by rw [List.length_drop]; omega)]
    by_cases h : m ≤ xs.length
    · rw [Nat.min_eq_left h]
    · rw [Nat.min_eq_right (by omega), List.drop_length, List.drop_eq_nil_of_le (by omega)])
theorem depth_ints' : ∀ ms : List Int, PyData.depthAll (ms.map PyData.int) = 0
  | [] => by simp [PyData.depthAll]
  | m :: ms => by simp [PyData.depthAll, PyData.depth, depth_ints' ms]
theorem lay_ints' : ∀ ms : List Int, PyData.canLayAll0 (ms.map PyData.int) = true
  | [] => by simp [PyData.canLayAll0]
  | m :: ms => by simp [PyData.canLayAll0, PyData.canLay0, lay_ints' ms]
theorem shaped_tints (ms : List Int) : SeqAt.shaped (.tuple (ms.map PyData.int)) = true := by
  unfold SeqAt.shaped
  rw [Bool.and_eq_true]
  refine ⟨by rw [PyData.canLay0]; exact lay_ints' ms, decide_eq_true ?_⟩
  rw [PyData.depth, depth_ints']
  omega
theorem eqv_tnil (ms : List Int) : PyData.eqv (.tuple (ms.map PyData.int)) (.tuple []) = decide (ms = []) := by
  cases ms with
  | nil => simp [PyData.eqv, PyData.eqvAll]
  | cons m ms => simp [PyData.eqv, PyData.eqvAll]
theorem eqv_ints : ∀ as bs : List Int, PyData.eqvAll (as.map PyData.int) (bs.map PyData.int) = decide (as = bs)
  | [], [] => by simp [PyData.eqvAll]
  | [], _ :: _ => by simp [PyData.eqvAll]
  | _ :: _, [] => by simp [PyData.eqvAll]
  | a :: as, b :: bs => by
    rw [List.map_cons, List.map_cons, PyData.eqvAll, eqv_ints as bs, Bool.eq_iff_iff]
    simp [PyData.eqv]
theorem eqv_lints (as bs : List Int) : PyData.eqv (.list (as.map PyData.int)) (.list (bs.map PyData.int)) = decide (as = bs) := by
  rw [PyData.eqv, eqv_ints]
theorem eqv_tints (as bs : List Int) : PyData.eqv (.tuple (as.map PyData.int)) (.tuple (bs.map PyData.int)) = decide (as = bs) := by
  rw [PyData.eqv, eqv_ints]
/-- sorted, and in order already -/
theorem sorted_same {as bs : List Int} (h : bs.Perm as) (hs : bs.Pairwise (· ≤ ·)) : as = bs ↔ as.Pairwise (· ≤ ·) :=
  ⟨fun e => e ▸ hs, fun q => h.symm.eq_of_pairwise (fun a b _ _ h1 h2 => Int.le_antisymm h1 h2) q hs⟩
end Own

namespace Own
open PySem PySem.Spec PyProof.Rows L2
/-! ### rows of trees that share no button: their order doesn't count -/
theorem helds_perm {A B : List Tr} (h : A.Perm B) : (Tr.helds A).Perm (Tr.helds B) := perm_flat h
theorem one_of_helds : ∀ {F : List Tr}, (Tr.helds F).Nodup → ∀ {a b : Tr} {x : Int}, a ∈ F → b ∈ F → x ∈ a.held → x ∈ b.held → a = b
  | [], _, _, _, _, h, _, _, _ => nomatch h
  | p :: r, hn, a, b, x, ha, hb, xa, xb => by
    rw [Tr.helds, List.nodup_append] at hn
    obtain ⟨h1, h2, h3⟩ := hn
    have inr : ∀ q ∈ r, ∀ y ∈ q.held, y ∈ Tr.helds r := fun q hq y hy => by
      rw [helds_eq]
      exact List.mem_flatMap.mpr ⟨q, hq, hy⟩
    rcases List.mem_cons.mp ha with e1 | za
    · rcases List.mem_cons.mp hb with e2 | zb
      · rw [e1, e2]
      · exact absurd rfl (h3 x (e1 ▸ xa) x (inr b zb x xb))
    · rcases List.mem_cons.mp hb with e2 | zb
      · exact absurd rfl (h3 x (e2 ▸ xb) x (inr a za x xa))
      · exact one_of_helds h2 za zb xa xb
theorem sortT_perm {A B : List Tr} (h : A.Perm B) (hn : (Tr.helds A).Nodup) (ho : ∀ p ∈ A, p.ok) : sortT A = sortT B := by
  have pa := sort_perm A
  have pb := sort_perm B
  refine (pa.trans (h.trans pb.symm)).eq_of_pairwise (fun a b ha hb h1 h2 => ?_) (sort_pw A) (sort_pw B)
  have ha' : a ∈ A := pa.mem_iff.mp ha
  have hb' : b ∈ A := h.mem_iff.mpr (pb.mem_iff.mp hb)
  have e : a.least = b.least := Int.le_antisymm h1 h2
  exact one_of_helds hn ha' hb' (least_mem a (ho a ha')) (by rw [e]; exact least_mem b (ho b hb'))
theorem flat_ok {w : Wd} {A : List Tr} (ho : ∀ p ∈ A, p.ok) : ∀ p ∈ A.flatMap (gives w), p.ok := fun p hp => by
  obtain ⟨q, hq1, hq2⟩ := List.mem_flatMap.mp hp
  exact (gives_ok w (ho q hq1)).1 p hq2
theorem flat_nodup {w : Wd} {A : List Tr} (hn : (Tr.helds A).Nodup) : (Tr.helds (A.flatMap (gives w))).Nodup := by
  rw [helds_gives]
  exact hn
theorem fold_perm {k : Int} {A B : List Tr} (h : A.Perm B) (hn : (Tr.helds A).Nodup) (ho : ∀ p ∈ A, p.ok) : fold1 k A = fold1 k B := by
  by_cases one : A.length = 1
  · have two : B.length = 1 := by rw [← h.length_eq]; exact one
    match A, B, one, two, h with
    | [a], [b], _, _, h => rw [List.singleton_perm_singleton.mp h]
  · rw [fold_ne one, fold_ne (by rw [← h.length_eq]; exact one)]
    unfold joined
    have hl := h.length_eq
    have hf := h.flatMap_right (gives (wordOf k A.length))
    rw [sortT_perm hf (flat_nodup hn) (flat_ok ho), hf.length_eq, hl]
/-! ### trees dressed -/
mutual
inductive Dr : Tr → Tr → Prop
  | b (i : Int) : Dr (.b i) (.b i)
  | wrap {t u : Tr} : Dr t u → Dr t (.t 1 [u])
  | trip {k : Int} {ps ps' qs : List Tr} : ps.Perm ps' → Drs ps' qs → Dr (.t k ps) (.t k qs)
  | ones {ps ps' qs : List Tr} {c : Nat} : ps.Perm ps' → Drs ps' qs → 2 ≤ c → c < qs.length → Dr (.t 1 ps) (.t 1 (qs.drop c ++ [.t 1 (qs.take c)]))
  | alls {k : Int} {ps ps' qs : List Tr} {c : Nat} : ps.Perm ps' → Drs ps' qs → 2 ≤ c → c < qs.length → k = (ps.length : Int) → Dr (.t k ps) (.t (((qs.drop c ++ [Tr.t (c : Int) (qs.take c)]).length : Nat) : Int) (qs.drop c ++ [Tr.t (c : Int) (qs.take c)]))
inductive Drs : List Tr → List Tr → Prop
  | nil : Drs [] []
  | cons {p q : Tr} {ps qs : List Tr} : Dr p q → Drs ps qs → Drs (p :: ps) (q :: qs)
end
theorem Drs.len : ∀ {ps qs : List Tr}, Drs ps qs → ps.length = qs.length
  | _, _, .nil => rfl
  | _, _, .cons _ b => by rw [List.length_cons, List.length_cons, b.len]
theorem Drs.snoc : ∀ {ps qs : List Tr} {p q : Tr}, Drs ps qs → Dr p q → Drs (ps ++ [p]) (qs ++ [q])
  | _, _, _, _, .nil, h => .cons h .nil
  | _, _, _, _, .cons a b, h => .cons a (b.snoc h)
theorem helds_drop_take (qs : List Tr) (c : Nat) (k : Int) : (Tr.helds (qs.drop c ++ [.t k (qs.take c)])).Perm (Tr.helds qs) := by
  have : Tr.helds (qs.drop c ++ [.t k (qs.take c)]) = Tr.helds (qs.drop c) ++ Tr.helds (qs.take c) := by
    rw [helds_eq, List.flatMap_append, ← helds_eq, List.flatMap_cons, List.flatMap_nil, List.append_nil, Tr.held]
  rw [this]
  have h2 : (Tr.helds (qs.take c) ++ Tr.helds (qs.drop c)) = Tr.helds qs := by
    rw [helds_eq, helds_eq, helds_eq, ← List.flatMap_append, List.take_append_drop]
  rw [← h2]
  exact List.perm_append_comm
theorem tells_append (a b : List Tr) : tells (a ++ b) = tells a ++ tells b := by rw [tells_eq, tells_eq, tells_eq, List.map_append]
theorem oks_app {a b : List Tr} (ha : Tr.oks a) (hb : Tr.oks b) : Tr.oks (a ++ b) := oks_all.mpr fun p hp => (List.mem_append.mp hp).elim (oks_all.mp ha p) (oks_all.mp hb p)
theorem oks_part {a : List Tr} (h : Tr.oks a) (n : Nat) : Tr.oks (a.take n) ∧ Tr.oks (a.drop n) :=
  ⟨oks_all.mpr fun p hp => oks_all.mp h p (List.mem_of_mem_take hp), oks_all.mpr fun p hp => oks_all.mp h p (List.mem_of_mem_drop hp)⟩
mutual
theorem Dr.like : ∀ {t u : Tr}, Dr t u → t.ok → u.ok ∧ u.held.Perm t.held
  | _, _, .b i, h => ⟨h, List.Perm.refl _⟩
  | _, _, .wrap d, h => by
    obtain ⟨a, b⟩ := d.like h
    refine ⟨by rw [Tr.ok, Tr.oks, Tr.oks]; exact ⟨Int.le_refl _, Int.le_refl _, a, trivial⟩, ?_⟩
    rw [Tr.held, Tr.helds, Tr.helds, List.append_nil]
    exact b
  | _, _, .trip hp d, h => by
    rw [Tr.ok] at h
    have hl := d.len
    have ho : Tr.oks _ := oks_all.mpr fun p hp' => oks_all.mp h.2.2 p (hp.mem_iff.mpr hp')
    obtain ⟨a, b⟩ := d.likes ho
    refine ⟨by rw [Tr.ok, ← hl, ← hp.length_eq]; exact ⟨h.1, h.2.1, a⟩, ?_⟩
    rw [Tr.held, Tr.held]
    exact b.trans (helds_perm hp).symm
  | _, _, .ones (qs := qs) (c := c) hp d c2 cl, h => by
    rw [Tr.ok] at h
    have hl := d.len
    have ho : Tr.oks _ := oks_all.mpr fun p hp' => oks_all.mp h.2.2 p (hp.mem_iff.mpr hp')
    obtain ⟨a, b⟩ := d.likes ho
    obtain ⟨a1, a2⟩ := oks_part a c
    refine ⟨?_, ?_⟩
    · rw [Tr.ok, List.length_append, List.length_singleton]
      refine ⟨Int.le_refl _, by omega, oks_app a2 ?_⟩
      rw [Tr.oks, Tr.oks, Tr.ok, List.length_take]
      exact ⟨⟨Int.le_refl _, by omega, a1⟩, trivial⟩
    · rw [Tr.held, Tr.held]
      exact (helds_drop_take qs c 1).trans (b.trans (helds_perm hp).symm)
  | _, _, .alls (qs := qs) (c := c) hp d c2 cl hk, h => by
    rw [Tr.ok] at h
    have hl := d.len
    have ho : Tr.oks _ := oks_all.mpr fun p hp' => oks_all.mp h.2.2 p (hp.mem_iff.mpr hp')
    obtain ⟨a, b⟩ := d.likes ho
    obtain ⟨a1, a2⟩ := oks_part a c
    refine ⟨?_, ?_⟩
    · rw [Tr.ok]
      refine ⟨by rw [List.length_append, List.length_singleton]; omega, Int.le_refl _, oks_app a2 ?_⟩
      rw [Tr.oks, Tr.oks, Tr.ok, List.length_take]
      exact ⟨⟨by omega, by omega, a1⟩, trivial⟩
    · rw [Tr.held, Tr.held]
      exact (helds_drop_take qs c c).trans (b.trans (helds_perm hp).symm)
theorem Drs.likes : ∀ {ps qs : List Tr}, Drs ps qs → Tr.oks ps → Tr.oks qs ∧ (Tr.helds qs).Perm (Tr.helds ps)
  | _, _, .nil, h => ⟨h, List.Perm.refl _⟩
  | _, _, .cons d ds, h => by
    rw [Tr.oks] at h
    obtain ⟨a, b⟩ := d.like h.1
    obtain ⟨a', b'⟩ := ds.likes h.2
    rw [Tr.oks, Tr.helds, Tr.helds]
    exact ⟨⟨a, a'⟩, b.append b'⟩
end
theorem tells_ok {ps : List Tr} (h : Tr.oks ps) : (∀ p ∈ tells ps, p.ok) ∧ (Tr.helds (tells ps)).Perm (Tr.helds ps) := by
  obtain ⟨a, b, _⟩ := tells_like ps h
  exact ⟨a, b⟩
/-- parts of a one-of or an all-of put together -/
theorem group {w : Wd} {k k' c' : Int} {X : List Tr} {c : Nat} (hw : w ≠ .some) (c2 : 2 ≤ c) (cl : c < X.length) (hk : wordOf k X.length = w)
    (hc : wordOf c' c = w) (hk' : wordOf k' ((X.drop c).length + 1 : Nat) = w) (ho : ∀ p ∈ X, p.ok) (hn : (Tr.helds X).Nodup)
    (hkk : w = .one → k' = k) : fold1 k' (X.drop c ++ [joined c' (X.take c)]) = fold1 k X := by
  have l1 : (X.drop c ++ [joined c' (X.take c)]).length = (X.drop c).length + 1 := by rw [List.length_append, List.length_singleton]
  have ld : (X.drop c).length = X.length - c := List.length_drop
  have lt : (X.take c).length = c := by rw [List.length_take]; omega
  rw [fold_ne (by omega), fold_ne (by omega)]
  have hflat : (X.drop c ++ [joined c' (X.take c)]).flatMap (gives w) = (X.drop c).flatMap (gives w) ++ sortT ((X.take c).flatMap (gives w)) := by
    rw [List.flatMap_append, List.flatMap_cons, List.flatMap_nil, List.append_nil]
    congr 1
    unfold joined
    rw [lt, hc, gives_t, if_pos]
    refine ⟨hw, ?_⟩
    rw [(sort_perm _).length_eq]
    have hfl := flat_len (w := w) (l := X.take c) fun p hp => ho p (List.mem_of_mem_take hp)
    cases w with
    | some => exact absurd rfl hw
    | one =>
      rw [if_neg (by intro z; cases z), word_one hc]
      unfold wordOf
      rw [if_pos rfl]
    | all =>
      rw [if_pos rfl]
      unfold wordOf
      rw [if_neg (by omega), if_pos rfl]
  have hperm : ((X.drop c).flatMap (gives w) ++ sortT ((X.take c).flatMap (gives w))).Perm (X.flatMap (gives w)) := by
    refine ((sort_perm _).append_left _).trans (List.perm_append_comm.trans ?_)
    rw [← List.flatMap_append, List.take_append_drop]
  generalize joined c' (X.take c) = J at l1 hflat ⊢
  unfold joined
  rw [l1, hk', hflat, hk, hperm.length_eq, (sortT_perm hperm.symm (flat_nodup hn) (flat_ok ho)).symm]
  cases w with
  | some => exact absurd rfl hw
  | one => rw [hkk rfl]
  | all => rfl
mutual
theorem Dr.tell : ∀ {t u : Tr}, Dr t u → t.ok → t.held.Nodup → tell u = tell t
  | _, _, .b i, _, _ => rfl
  | _, _, .wrap (u := u) d, h, hn => by
    have := d.tell h hn
    rw [Own.tell, tells, tells, fold1]
    exact this
  | _, _, .trip (k := k) (ps := ps) (ps' := ps') (qs := qs) hp d, h, hn => by
    rw [Tr.ok] at h
    rw [Tr.held] at hn
    have ho' : Tr.oks ps' := oks_all.mpr fun p hp' => oks_all.mp h.2.2 p (hp.mem_iff.mpr hp')
    have hn' : (Tr.helds ps').Nodup := (helds_perm hp).nodup_iff.mp hn
    have := d.tells ho' hn'
    obtain ⟨o1, o2⟩ := tells_ok h.2.2
    rw [Own.tell, Own.tell, this]
    refine (fold_perm ?_ (o2.nodup_iff.mpr hn) o1).symm
    rw [tells_eq, tells_eq]
    exact hp.map _
  | _, _, .ones (ps := ps) (ps' := ps') (qs := qs) (c := c) hp d c2 cl, h, hn => by
    rw [Tr.ok] at h
    rw [Tr.held] at hn
    have hl := d.len
    have ho' : Tr.oks ps' := oks_all.mpr fun p hp' => oks_all.mp h.2.2 p (hp.mem_iff.mpr hp')
    have hn' : (Tr.helds ps').Nodup := (helds_perm hp).nodup_iff.mp hn
    have ht := d.tells ho' hn'
    obtain ⟨o1, o2⟩ := tells_ok h.2.2
    obtain ⟨o3, o4⟩ := tells_ok ho'
    have e1 : tells (qs.drop c ++ [.t 1 (qs.take c)]) = (tells ps').drop c ++ [joined 1 ((tells ps').take c)] := by
      rw [tells_append, tells, tells, Own.tell, ← ht, tells_eq, tells_eq, tells_eq, ← List.map_drop, ← List.map_take]
      rw [fold_ne (by rw [List.length_map, List.length_take]; omega)]
    have lx : (tells ps').length = qs.length := by rw [tells_len, hl]
    rw [Own.tell, Own.tell, e1]
    rw [group (w := .one) (k := 1) (by intro z; cases z) c2 (by omega) rfl rfl rfl o3 (o4.nodup_iff.mpr hn') fun _ => rfl]
    refine (fold_perm ?_ (o2.nodup_iff.mpr hn) o1).symm
    rw [tells_eq, tells_eq]
    exact hp.map _
  | _, _, .alls (k := k) (ps := ps) (ps' := ps') (qs := qs) (c := c) hp d c2 cl hk, h, hn => by
    rw [Tr.ok] at h
    rw [Tr.held] at hn
    have hl := d.len
    have ho' : Tr.oks ps' := oks_all.mpr fun p hp' => oks_all.mp h.2.2 p (hp.mem_iff.mpr hp')
    have hn' : (Tr.helds ps').Nodup := (helds_perm hp).nodup_iff.mp hn
    have ht := d.tells ho' hn'
    obtain ⟨o1, o2⟩ := tells_ok h.2.2
    obtain ⟨o3, o4⟩ := tells_ok ho'
    have e1 : tells (qs.drop c ++ [Tr.t (c : Int) (qs.take c)]) = (tells ps').drop c ++ [joined c ((tells ps').take c)] := by
      rw [tells_append, tells, tells, Own.tell, ← ht, tells_eq, tells_eq, tells_eq, ← List.map_drop, ← List.map_take]
      rw [fold_ne (by rw [List.length_map, List.length_take]; omega)]
    have lx : (tells ps').length = qs.length := by rw [tells_len, hl]
    have lp := hp.length_eq
    have wself : ∀ n : Nat, n ≠ 1 → wordOf n n = .all := fun n hn1 => by
      unfold wordOf
      rw [if_neg (by omega), if_pos rfl]
    have ll : (qs.drop c ++ [Tr.t (c : Int) (qs.take c)]).length = ((tells ps').drop c).length + 1 := by
      rw [List.length_append, List.length_singleton, List.length_drop, List.length_drop, lx]
    rw [Own.tell, Own.tell, e1, ll]
    rw [group (w := .all) (k := k) (by intro z; cases z) c2 (by omega) ?_ (wself c (by omega)) (wself _ ?_) o3 (o4.nodup_iff.mpr hn') fun z => nomatch z]
    · refine (fold_perm ?_ (o2.nodup_iff.mpr hn) o1).symm
      rw [tells_eq, tells_eq]
      exact hp.map _
    · rw [hk, lx, ← hl, ← lp]
      exact wself _ (by omega)
    · rw [List.length_drop]
      omega
theorem Drs.tells : ∀ {ps qs : List Tr}, Drs ps qs → Tr.oks ps → (Tr.helds ps).Nodup → tells qs = tells ps
  | _, _, .nil, _, _ => rfl
  | _, _, .cons d ds, h, hn => by
    rw [Tr.oks] at h
    rw [Tr.helds, List.nodup_append] at hn
    rw [Own.tells, Own.tells, d.tell h.1 hn.1, ds.tells h.2 hn.2.1]
end
end Own

namespace Own
open PySem PySem.Spec PyProof.Rows L2
/-! ### what is never reached; is True -/
/-- a bool, an int or a tracked thing -/
def tame : V → Bool
  | .bl _ => true
  | .int _ => true
  | .ref _ => true
  | _ => false
def rIsTrue : R2 := fun x y H Q => y = .bl true ∧ tame x = true ∧ Q (.bl (decide (x = .bl true))) H
theorem op_isTrue {X : Cx} : OpR X (compareOp .Is) rIsTrue := by
  intro pins s σ H x y v u Q I rx ry h
  obtain ⟨rfl, ht, q⟩ := h
  cases ry
  cases x with
  | bl b =>
    cases rx
    exact wpAny_is_plain rfl (fin_bl I q (by cases b <;> rfl))
  | int i =>
    obtain ⟨t, rfl⟩ := rx
    exact wpAny_is_plain rfl (fin_bl I q rfl)
  | ref a =>
    cases rx
    exact wpAny_is_plain rfl (fin_bl I q rfl)
  | _ => cases ht
/-! ### the set of a tuple of ints -/
def rSetTupI (K : PySem.W.Frag) (w : World) : List V → Hp → VK → Prop := fun xs H Q => ∃ (p : Addr) (ns : List Int), xs = [V.ref p] ∧ SqT K H p (ns.map V.int) ∧ ns.length ≤ 1000 ∧
  ∀ (a : Addr) (c : Nat), H a = none → c ≤ ns.length → Q (.ref a) (upd H a (SetO w a (fun j => decide (j ∈ ns)) c))
theorem cr_setTupI {X : Cx} (hc : X.calm = true) : CallR X (.type "set") (rSetTupI X.K X.w) := by
  intro pins s σ H xs us Q I r h
  obtain ⟨p, ns, rfl, hs, hb, q⟩ := h
  rw [Vals.ref1 r]
  obtain ⟨its, rv, ht, hz⟩ := I.tuple hs
  refine call_set_tupI ns (I.ok.hd hc) ht rv.ints (Nat.lt_of_le_of_lt (Nat.succ_le_succ hb) (by decide)) fun h' tk c R hcl keep => ?_
  exact ⟨.ref _, upd H s.heap.objs.size (SetO X.w s.heap.objs.size (fun j => decide (j ∈ ns)) c), I.laid (t' := tk) (fun b u e => keep b u e) (Nat.le_refl _) (setO_new R), rfl, q _ c (I.hok.fresh (Nat.le_refl _)) hcl⟩
end Own

namespace Own
open PySem PySem.Spec PyProof.Rows L2
/-! ### what is left of a tree -/
inductive Rs where
  | set (b : Bool)
  | un (t : Tr)
def openOf : List Rs → List Tr
  | [] => []
  | .set _ :: r => openOf r
  | .un t :: r => t :: openOf r
def doneOf : List Rs → Nat
  | [] => 0
  | .set true :: r => doneOf r + 1
  | .set false :: r => doneOf r
  | .un _ :: r => doneOf r
def closed (need : Int) (us : List Tr) : Rs := if need ≤ 0 then .set true else if need ≤ (us.length : Int) then .un (.t need us) else .set false
mutual
def rest (On Off : List Int) : Tr → Rs
  | .b i => if i ∈ On then .set true else if i ∈ Off then .set false else .un (.b i)
  | .t k ps => closed (k - doneOf (rests On Off ps)) (openOf (rests On Off ps))
def rests (On Off : List Int) : List Tr → List Rs
  | [] => []
  | p :: r => rest On Off p :: rests On Off r
end
def tellR : Rs → Rs
  | .set b => .set b
  | .un t => .un (tell t)
theorem rests_eq (On Off : List Int) : ∀ ps : List Tr, rests On Off ps = ps.map (rest On Off)
  | [] => by rw [rests]; rfl
  | p :: r => by rw [rests, rests_eq On Off r]; rfl
theorem rests_snoc (On Off : List Int) (ps : List Tr) (p : Tr) : rests On Off (ps ++ [p]) = rests On Off ps ++ [rest On Off p] := by rw [rests_eq, rests_eq, List.map_append]; rfl
theorem rests_len (On Off : List Int) (ps : List Tr) : (rests On Off ps).length = ps.length := by rw [rests_eq, List.length_map]
theorem openOf_app : ∀ a b : List Rs, openOf (a ++ b) = openOf a ++ openOf b
  | [], b => rfl
  | .set _ :: a, b => by rw [List.cons_append, openOf, openOf, openOf_app a b]
  | .un t :: a, b => by rw [List.cons_append, openOf, openOf, openOf_app a b]; rfl
theorem doneOf_app : ∀ a b : List Rs, doneOf (a ++ b) = doneOf a + doneOf b
  | [], b => by rw [List.nil_append, doneOf]; omega
  | .set true :: a, b => by rw [List.cons_append, doneOf, doneOf, doneOf_app a b]; omega
  | .set false :: a, b => by rw [List.cons_append, doneOf, doneOf, doneOf_app a b]
  | .un t :: a, b => by rw [List.cons_append, doneOf, doneOf, doneOf_app a b]
theorem openOf_len : ∀ a : List Rs, (openOf a).length ≤ a.length
  | [] => Nat.le_refl _
  | .set _ :: a => by rw [openOf, List.length_cons]; have := openOf_len a; omega
  | .un t :: a => by rw [openOf, List.length_cons, List.length_cons]; have := openOf_len a; omega
theorem doneOf_len : ∀ a : List Rs, doneOf a ≤ a.length
  | [] => Nat.le_refl _
  | .set true :: a => by rw [doneOf, List.length_cons]; have := doneOf_len a; omega
  | .set false :: a => by rw [doneOf, List.length_cons]; have := doneOf_len a; omega
  | .un t :: a => by rw [doneOf, List.length_cons]; have := doneOf_len a; omega
mutual
theorem rest_un {On Off : List Int} : ∀ {t u : Tr}, rest On Off t = .un u → u.ok ∧ u.deep ≤ t.deep ∧ u.held.Sublist t.held
  | .b i, u, h => by
    rw [rest] at h
    split at h
    · cases h
    · split at h
      · cases h
      · cases h
        exact ⟨by rw [Tr.ok]; trivial, Nat.le_refl _, List.Sublist.refl _⟩
  | .t k ps, u, h => by
    rw [rest] at h
    unfold closed at h
    split at h
    · cases h
    · split at h
      · cases h
        obtain ⟨a, b, c⟩ := rests_un (On := On) (Off := Off) ps
        refine ⟨by rw [Tr.ok]; exact ⟨by omega, by omega, a⟩, ?_, ?_⟩
        · rw [Tr.deep, Tr.deep]; omega
        · rw [Tr.held, Tr.held]; exact c
      · cases h
theorem rests_un {On Off : List Int} : ∀ ps : List Tr, Tr.oks (openOf (rests On Off ps)) ∧ Tr.deeps (openOf (rests On Off ps)) ≤ Tr.deeps ps ∧ (Tr.helds (openOf (rests On Off ps))).Sublist (Tr.helds ps)
  | [] => by
    rw [rests, openOf, Tr.oks, Tr.deeps]
    exact ⟨trivial, Nat.le_refl _, List.Sublist.refl _⟩
  | p :: r => by
    obtain ⟨a, b, c⟩ := rests_un (On := On) (Off := Off) r
    rw [rests, Tr.deeps, Tr.helds]
    cases h : rest On Off p with
    | set x =>
      rw [openOf]
      exact ⟨a, by omega, c.trans (List.sublist_append_right _ _)⟩
    | un u =>
      obtain ⟨a', b', c'⟩ := rest_un h
      rw [openOf, Tr.oks, Tr.deeps, Tr.helds]
      exact ⟨⟨a', a⟩, by omega, c'.append c⟩
end
/-! all buttons pressed or stuck: it is settled -/
mutual
theorem rest_all {On Off : List Int} : ∀ t : Tr, (∀ x ∈ t.held, x ∈ On ∨ x ∈ Off) → ∃ b, rest On Off t = .set b
  | .b i, h => by
    rw [rest]
    by_cases a : i ∈ On
    · rw [if_pos a]; exact ⟨_, rfl⟩
    · rw [if_neg a]
      rcases h i (by rw [Tr.held]; exact List.mem_singleton.mpr rfl) with z | z
      · exact absurd z a
      · rw [if_pos z]; exact ⟨_, rfl⟩
  | .t k ps, h => by
    rw [Tr.held] at h
    rw [rest, rests_all ps h]
    unfold closed
    split
    · exact ⟨_, rfl⟩
    · split
      · rename_i a b
        exact absurd b (by simp only [List.length_nil]; omega)
      · exact ⟨_, rfl⟩
theorem rests_all {On Off : List Int} : ∀ ps : List Tr, (∀ x ∈ Tr.helds ps, x ∈ On ∨ x ∈ Off) → openOf (rests On Off ps) = []
  | [], _ => by rw [rests, openOf]
  | p :: r, h => by
    rw [Tr.helds] at h
    obtain ⟨b, e⟩ := rest_all p fun x hx => h x (List.mem_append_left _ hx)
    rw [rests, e, openOf]
    exact rests_all r fun x hx => h x (List.mem_append_right _ hx)
end
mutual
theorem rest_perm {On On' Off Off' : List Int} (h1 : On.Perm On') (h2 : Off.Perm Off') : ∀ t : Tr, rest On Off t = rest On' Off' t
  | .b i => by rw [rest, rest]; simp only [h1.mem_iff, h2.mem_iff]
  | .t k ps => by rw [rest, rest, rests_perm h1 h2 ps]
theorem rests_perm {On On' Off Off' : List Int} (h1 : On.Perm On') (h2 : Off.Perm Off') : ∀ ps : List Tr, rests On Off ps = rests On' Off' ps
  | [] => by rw [rests, rests]
  | p :: r => by rw [rests, rests, rest_perm h1 h2 p, rests_perm h1 h2 r]
end
/-! how it lies in the heap -/
def AtR (H : Hp) (v : V) : Rs → Prop
  | .set b => v = .bl b
  | .un t => At H v t
inductive AtRs (H : Hp) : List V → List Rs → Prop
  | nil : AtRs H [] []
  | cons {v r vs rs} : AtR H v r → AtRs H vs rs → AtRs H (v :: vs) (r :: rs)
theorem AtR.mono {H H' : Hp} (e : KT H H') {v : V} {r : Rs} (h : AtR H v r) : AtR H' v r := by
  cases r with
  | set b => exact h
  | un t => exact At.mono e h
theorem AtR.same {H H' : Hp} (e : Same H H') {v : V} {r : Rs} (h : AtR H v r) : AtR H' v r := h.mono (KT.of e)
theorem AtRs.mono {H H' : Hp} (e : KT H H') : ∀ {vs : List V} {rs : List Rs}, AtRs H vs rs → AtRs H' vs rs
  | _, _, .nil => .nil
  | _, _, .cons a b => .cons (a.mono e) (b.mono e)
theorem AtRs.length {H : Hp} : ∀ {vs : List V} {rs : List Rs}, AtRs H vs rs → vs.length = rs.length
  | _, _, .nil => rfl
  | _, _, .cons _ b => by rw [List.length_cons, List.length_cons, b.length]
theorem AtRs.append {H : Hp} : ∀ {vs us : List V} {rs ss : List Rs}, AtRs H vs rs → AtRs H us ss → AtRs H (vs ++ us) (rs ++ ss)
  | _, _, _, _, .nil, h => h
  | _, _, _, _, .cons a b, h => .cons a (b.append h)
theorem AtRs.get {H : Hp} : ∀ {vs : List V} {rs : List Rs} {i : Nat} {v : V}, AtRs H vs rs → vs[i]? = some v → ∃ r, rs[i]? = some r ∧ AtR H v r
  | _, _, _, _, .nil, e => by simp at e
  | _, _, 0, _, .cons h1 _, e => by
    simp at e
    subst e
    exact ⟨_, rfl, h1⟩
  | _, _, i + 1, _, .cons _ h2, e => by
    obtain ⟨r, e1, h⟩ := AtRs.get (i := i) h2 (by simpa using e)
    exact ⟨r, by simpa using e1, h⟩
def Rs.isSet : Rs → Bool
  | .set _ => true
  | .un _ => false
theorem AtR.kind {K : PySem.W.Frag} {H : Hp} {v : V} {r : Rs} (h : AtR H v r) : ∃ ty : String, TyX K H v (.type ty) ∧ kitB ty "bool" = some r.isSet := by
  cases r with
  | set b =>
    cases (show v = .bl b from h)
    exact ⟨"bool", .base (.bl b), (by decide +kernel : kitB "bool" "bool" = some true)⟩
  | un t =>
    cases (show At H v t from h) with
    | b i => exact ⟨"int", .base (.int i), (by decide +kernel : kitB "int" "bool" = some false)⟩
    | t h1 _ _ _ => exact ⟨"tuple", .base (.tup h1), (by decide +kernel : kitB "tuple" "bool" = some false)⟩
theorem AtR.tame {H : Hp} {v : V} {r : Rs} (h : AtR H v r) : tame v = true := by
  cases r with
  | set b => cases (show v = .bl b from h); rfl
  | un t => cases (show At H v t from h) <;> rfl
def Rs.isDone : Rs → Bool
  | .set b => b
  | .un _ => false
theorem AtR.is {H : Hp} {v : V} {r : Rs} (h : AtR H v r) : decide (v = .bl true) = r.isDone := by
  cases r with
  | set b =>
    cases (show v = .bl b from h)
    show decide (V.bl b = V.bl true) = b
    cases b <;> decide
  | un t => cases (show At H v t from h) <;> exact decide_eq_false (by intro z; cases z)
theorem doneOf_snoc (a : List Rs) (r : Rs) : doneOf (a ++ [r]) = doneOf a + (if r.isDone = true then 1 else 0) := by
  rw [doneOf_app]
  cases r with
  | set b => cases b <;> rfl
  | un t => rfl
theorem openOf_snoc (a : List Rs) (r : Rs) : openOf (a ++ [r]) = openOf a ++ (match r with | .set _ => [] | .un t => [t]) := by
  rw [openOf_app]
  cases r <;> rfl
def Rs.d : Rs → PyData
  | .set b => .bool b
  | .un t => t.d
theorem AtR.dp {K : PySem.W.Frag} {H : Hp} {v : V} {r : Rs} (h : AtR H v r) : Dp K H v r.d := by
  cases r with
  | set b => cases (show v = .bl b from h); exact .bl b
  | un t => exact At.dp h
end Own

namespace Own
open PySem PySem.Spec PyProof.Rows L2
/-! ### trees as functions of what is pressed -/
mutual
def gp (S : Int → Bool) : Tr → Bool
  | .b i => S i
  | .t k ps => decide (k ≤ (cp S ps : Int))
def cp (S : Int → Bool) : List Tr → Nat
  | [] => 0
  | p :: r => (if gp S p = true then 1 else 0) + cp S r
end
mutual
theorem go_gp (L : List Int) : ∀ t : Tr, t.go L = gp (fun i => decide (i ∈ L)) t
  | .b i => by rw [Tr.go, gp]
  | .t k ps => by rw [Tr.go, gp, cnt_cp L ps]
theorem cnt_cp (L : List Int) : ∀ ps : List Tr, Tr.cnt L ps = cp (fun i => decide (i ∈ L)) ps
  | [] => by rw [Tr.cnt, cp]
  | p :: r => by rw [Tr.cnt, cp, go_gp L p, cnt_cp L r]
end
mutual
theorem gp_congr {S R : Int → Bool} : ∀ t : Tr, (∀ x ∈ t.held, S x = R x) → gp S t = gp R t
  | .b i, h => by rw [gp, gp, h i (by rw [Tr.held]; exact List.mem_singleton.mpr rfl)]
  | .t k ps, h => by rw [gp, gp, cp_congr ps (by rw [Tr.held] at h; exact h)]
theorem cp_congr {S R : Int → Bool} : ∀ ps : List Tr, (∀ x ∈ Tr.helds ps, S x = R x) → cp S ps = cp R ps
  | [], _ => by rw [cp, cp]
  | p :: r, h => by
    rw [Tr.helds] at h
    rw [cp, cp, gp_congr p fun x hx => h x (List.mem_append_left _ hx), cp_congr r fun x hx => h x (List.mem_append_right _ hx)]
end
theorem cp_app (S : Int → Bool) : ∀ a b : List Tr, cp S (a ++ b) = cp S a + cp S b
  | [], b => by rw [List.nil_append, cp]; omega
  | p :: a, b => by rw [List.cons_append, cp, cp, cp_app S a b]; omega
theorem cp_eq (S : Int → Bool) : ∀ ps : List Tr, cp S ps = (ps.filter fun p => gp S p).length
  | [] => by rw [cp]; rfl
  | p :: r => by
    rw [cp, cp_eq S r, List.filter_cons]
    split <;> simp <;> omega
theorem cp_perm (S : Int → Bool) {a b : List Tr} (h : a.Perm b) : cp S a = cp S b := by
  rw [cp_eq, cp_eq, (h.filter _).length_eq]
theorem cp_le (S : Int → Bool) (ps : List Tr) : cp S ps ≤ ps.length := by
  rw [cp_eq]
  exact List.length_filter_le _ _
mutual
theorem gp_on {S : Int → Bool} : ∀ t : Tr, t.ok → (∀ x ∈ t.held, S x = true) → gp S t = true
  | .b i, _, h => by rw [gp]; exact h i (by rw [Tr.held]; exact List.mem_singleton.mpr rfl)
  | .t k ps, o, h => by
    rw [Tr.ok] at o
    rw [gp, cp_on ps o.2.2 (by rw [Tr.held] at h; exact h)]
    exact decide_eq_true o.2.1
theorem cp_on {S : Int → Bool} : ∀ ps : List Tr, Tr.oks ps → (∀ x ∈ Tr.helds ps, S x = true) → cp S ps = ps.length
  | [], _, _ => by rw [cp]; rfl
  | p :: r, o, h => by
    rw [Tr.oks] at o
    rw [Tr.helds] at h
    rw [cp, gp_on p o.1 fun x hx => h x (List.mem_append_left _ hx), cp_on r o.2 fun x hx => h x (List.mem_append_right _ hx), List.length_cons]
    simp
    omega
end
mutual
theorem gp_off {S : Int → Bool} : ∀ t : Tr, t.ok → (∀ x ∈ t.held, S x = false) → gp S t = false
  | .b i, _, h => by rw [gp]; exact h i (by rw [Tr.held]; exact List.mem_singleton.mpr rfl)
  | .t k ps, o, h => by
    rw [Tr.ok] at o
    rw [gp, cp_off ps o.2.2 (by rw [Tr.held] at h; exact h)]
    exact decide_eq_false (by omega)
theorem cp_off {S : Int → Bool} : ∀ ps : List Tr, Tr.oks ps → (∀ x ∈ Tr.helds ps, S x = false) → cp S ps = 0
  | [], _, _ => by rw [cp]
  | p :: r, o, h => by
    rw [Tr.oks] at o
    rw [Tr.helds] at h
    rw [cp, gp_off p o.1 fun x hx => h x (List.mem_append_left _ hx), cp_off r o.2 fun x hx => h x (List.mem_append_right _ hx)]
    rfl
end
/-! buttons put -/
def wi (S : Int → Bool) (x : Int) : Int → Bool := fun i => decide (i = x) || S i
theorem wi_same (S : Int → Bool) (x : Int) : wi S x x = true := by simp [wi]
theorem wi_ne {S : Int → Bool} {x i : Int} (h : i ≠ x) : wi S x i = S i := by simp [wi, h]
/-- so many of the parts pressed whole, all others not at all -/
def firstOn (R : List Tr) (m : Nat) : Int → Bool := fun i => decide (i ∈ Tr.helds (R.take m))
theorem helds_take_drop (R : List Tr) (m : Nat) : Tr.helds R = Tr.helds (R.take m) ++ Tr.helds (R.drop m) := by
  rw [helds_eq, helds_eq, helds_eq, ← List.flatMap_append, List.take_append_drop]
theorem cp_first {R : List Tr} {m : Nat} (o : Tr.oks R) (n : (Tr.helds R).Nodup) (hm : m ≤ R.length) {S : Int → Bool} (hS : ∀ x ∈ Tr.helds R, S x = firstOn R m x) : cp S R = m := by
  rw [cp_congr R hS]
  obtain ⟨o1, o2⟩ := oks_part o m
  have e : cp (firstOn R m) R = cp (firstOn R m) (R.take m) + cp (firstOn R m) (R.drop m) := by rw [← cp_app, List.take_append_drop]
  rw [e, cp_on (S := firstOn R m) _ o1 fun x hx => decide_eq_true hx, cp_off (S := firstOn R m) _ o2 fun x hx => ?_, List.length_take]
  · omega
  · rw [helds_take_drop R m] at n
    exact decide_eq_false fun q => (List.nodup_append.mp n).2.2 x q x hx rfl
theorem first_block {R : List Tr} (n : (Tr.helds R).Nodup) (m : Nat) {p : Tr} (hp : p ∈ R) : (∀ x ∈ p.held, firstOn R m x = true) ∨ ∀ x ∈ p.held, firstOn R m x = false := by
  rw [helds_take_drop R m] at n
  have hp' : p ∈ R.take m ++ R.drop m := by rw [List.take_append_drop]; exact hp
  rcases List.mem_append.mp hp' with h | h
  · refine .inl fun x hx => decide_eq_true ?_
    rw [helds_eq]
    exact List.mem_flatMap.mpr ⟨p, h, hx⟩
  · refine .inr fun x hx => decide_eq_false fun q => (List.nodup_append.mp n).2.2 x q x ?_ rfl
    rw [helds_eq]
    exact List.mem_flatMap.mpr ⟨p, h, hx⟩
theorem one_of {p : Tr} {ps : List Tr} (h : p ∈ ps) : ∃ R, ps.Perm (p :: R) := by
  obtain ⟨A, B, rfl⟩ := List.append_of_mem h
  exact ⟨A ++ B, List.perm_middle⟩
theorem two_of {p q : Tr} {ps : List Tr} (hp : p ∈ ps) (hq : q ∈ ps) (ne : p ≠ q) : ∃ R, ps.Perm (p :: q :: R) := by
  obtain ⟨R, h⟩ := one_of hp
  have : q ∈ p :: R := h.mem_iff.mp hq
  rcases List.mem_cons.mp this with e | e
  · exact absurd e.symm ne
  · obtain ⟨R', h'⟩ := one_of e
    exact ⟨R', h.trans (h'.cons p)⟩
theorem three_of {p q r : Tr} {ps : List Tr} (hp : p ∈ ps) (hq : q ∈ ps) (hr : r ∈ ps) (n1 : p ≠ q) (n2 : p ≠ r) (n3 : q ≠ r) : ∃ R, ps.Perm (p :: q :: r :: R) := by
  obtain ⟨R, h⟩ := two_of hp hq n1
  have : r ∈ p :: q :: R := h.mem_iff.mp hr
  rcases List.mem_cons.mp this with e | e
  · exact absurd e.symm n2
  · rcases List.mem_cons.mp e with e | e
    · exact absurd e.symm n3
    · obtain ⟨R', h'⟩ := one_of e
      exact ⟨R', h.trans ((h'.cons q).cons p)⟩
theorem apart {ps : List Tr} {p : Tr} {R : List Tr} (h : ps.Perm (p :: R)) (n : (Tr.helds ps).Nodup) : p.held.Nodup ∧ (Tr.helds R).Nodup ∧ ∀ x ∈ p.held, x ∉ Tr.helds R := by
  have := (helds_perm h).nodup_iff.mp n
  rw [Tr.helds, List.nodup_append] at this
  exact ⟨this.1, this.2.1, fun x h1 h2 => this.2.2 x h1 x h2 rfl⟩
theorem oks_perm {a b : List Tr} (h : a.Perm b) (o : Tr.oks a) : Tr.oks b := oks_all.mpr fun p hp => oks_all.mp o p (h.mem_iff.mpr hp)
/-! a function on a part, so many of the others on -/
def mix (p : Tr) (S R : Int → Bool) : Int → Bool := fun i => if i ∈ p.held then S i else R i
theorem mix_in {p : Tr} {S R : Int → Bool} {i : Int} (h : i ∈ p.held) : mix p S R i = S i := by unfold mix; rw [if_pos h]
theorem mix_out {p : Tr} {S R : Int → Bool} {i : Int} (h : i ∉ p.held) : mix p S R i = R i := by unfold mix; rw [if_neg h]
theorem gp_mix (p : Tr) (S R : Int → Bool) : gp (mix p S R) p = gp S p := gp_congr p fun x hx => mix_in hx
theorem cp_mix {p : Tr} {S R : Int → Bool} {qs : List Tr} (h : ∀ x ∈ p.held, x ∉ Tr.helds qs) : cp (mix p S R) qs = cp R qs := cp_congr qs fun x hx => mix_out fun q => h x q hx
theorem gp_part {k : Int} {ps : List Tr} {p : Tr} {R : List Tr} (h : ps.Perm (p :: R)) (o : Tr.oks ps) (n : (Tr.helds ps).Nodup) (hk : 1 ≤ k) (hl : k ≤ ps.length) (S : Int → Bool) :
    gp (mix p S (firstOn R (k - 1).toNat)) (.t k ps) = gp S p := by
  obtain ⟨n1, n2, n3⟩ := apart h n
  have oR := oks_perm h o
  rw [Tr.oks] at oR
  have hlen := h.length_eq
  rw [List.length_cons] at hlen
  rw [gp, cp_perm _ h, cp, gp_mix, cp_mix n3, cp_first oR.2 n2 (by omega) fun x _ => rfl]
  cases gp S p with
  | true => exact decide_eq_true (by simp; omega)
  | false => exact decide_eq_false (by simp; omega)
/-! each button matters -/
def Ess (t : Tr) (x : Int) : Prop := ∃ S : Int → Bool, gp S t = false ∧ gp (wi S x) t = true
theorem wi_mix {p : Tr} {S R : Int → Bool} {x : Int} (h : x ∈ p.held) : wi (mix p S R) x = mix p (wi S x) R := by
  funext i
  unfold wi mix
  by_cases e : i = x
  · subst e
    simp [h]
  · simp [e]
mutual
theorem ess : ∀ t : Tr, t.ok → t.held.Nodup → ∀ x ∈ t.held, Ess t x
  | .b i, _, _, x, hx => by
    rw [Tr.held, List.mem_singleton] at hx
    subst hx
    exact ⟨fun _ => false, by rw [gp], by rw [gp]; exact wi_same _ _⟩
  | .t k ps, o, n, x, hx => by
    rw [Tr.ok] at o
    rw [Tr.held] at n hx
    obtain ⟨p, hp, hxp, S, h1, h2⟩ := esss ps o.2.2 n x hx
    obtain ⟨R, hR⟩ := one_of hp
    refine ⟨mix p S (firstOn R (k - 1).toNat), ?_, ?_⟩
    · rw [gp_part hR o.2.2 n o.1 o.2.1]; exact h1
    · rw [wi_mix hxp, gp_part hR o.2.2 n o.1 o.2.1]; exact h2
theorem esss : ∀ ps : List Tr, Tr.oks ps → (Tr.helds ps).Nodup → ∀ x ∈ Tr.helds ps, ∃ p ∈ ps, x ∈ p.held ∧ Ess p x
  | [], _, _, x, hx => by rw [Tr.helds] at hx; cases hx
  | p :: r, o, n, x, hx => by
    rw [Tr.oks] at o
    rw [Tr.helds, List.nodup_append] at n
    rw [Tr.helds] at hx
    rcases List.mem_append.mp hx with z | z
    · exact ⟨p, List.mem_cons_self, z, ess p o.1 n.1 x z⟩
    · obtain ⟨q, h1, h2⟩ := esss r o.2 n.2.1 x z
      exact ⟨q, List.mem_cons_of_mem _ h1, h2⟩
end
theorem wi_out {t : Tr} {S : Int → Bool} {x : Int} (h : x ∉ t.held) : gp (wi S x) t = gp S t := gp_congr t fun i hi => wi_ne fun e => h (e ▸ hi)
theorem held_same {s t : Tr} (o : s.ok) (n : s.held.Nodup) (h : ∀ S, gp S s = gp S t) : ∀ x ∈ s.held, x ∈ t.held := fun x hx => by
  obtain ⟨S, h1, h2⟩ := ess s o n x hx
  refine Decidable.byContradiction fun q => ?_
  rw [h] at h1 h2
  rw [wi_out q, h1] at h2
  cases h2
/-! two buttons, three buttons -/
def And2 (t : Tr) (x y : Int) : Prop := ∃ S : Int → Bool, gp (wi (wi S x) y) t = true ∧ gp (wi S x) t = false ∧ gp (wi S y) t = false
def Maj3 (t : Tr) (x y z : Int) : Prop := ∃ S : Int → Bool, gp (wi S x) t = false ∧ gp (wi S y) t = false ∧ gp (wi S z) t = false ∧ gp (wi (wi S x) y) t = true ∧ gp (wi (wi S x) z) t = true ∧ gp (wi (wi S y) z) t = true
theorem and_lift {k : Int} {ps : List Tr} {p : Tr} (hp : p ∈ ps) (o : Tr.oks ps) (n : (Tr.helds ps).Nodup) (hk : 1 ≤ k) (hl : k ≤ ps.length) {x y : Int} (hx : x ∈ p.held) (hy : y ∈ p.held) (h : And2 p x y) : And2 (.t k ps) x y := by
  obtain ⟨R, hR⟩ := one_of hp
  obtain ⟨S, h1, h2, h3⟩ := h
  refine ⟨mix p S (firstOn R (k - 1).toNat), ?_, ?_, ?_⟩
  · rw [wi_mix hx, wi_mix hy, gp_part hR o n hk hl]; exact h1
  · rw [wi_mix hx, gp_part hR o n hk hl]; exact h2
  · rw [wi_mix hy, gp_part hR o n hk hl]; exact h3
theorem wi_mix_out {p : Tr} {S R : Int → Bool} {x : Int} (h : x ∉ p.held) : wi (mix p S R) x = mix p S (wi R x) := by
  funext i
  unfold wi mix
  by_cases e : i = x
  · subst e
    simp [h]
  · simp [e]
theorem wi_first {R : List Tr} {m : Nat} {x i : Int} (hx : x ∉ Tr.helds R) (hi : i ∈ Tr.helds R) : wi (firstOn R m) x i = firstOn R m i := wi_ne fun e => hx (e ▸ hi)
/-- two parts, so many of the others on -/
theorem cp_two {p q : Tr} {R : List Tr} {m : Nat} (o : Tr.oks (p :: q :: R)) (n : (Tr.helds (p :: q :: R)).Nodup) (hm : m ≤ R.length) (S1 S2 : Int → Bool) :
    cp (mix p S1 (mix q S2 (firstOn R m))) (p :: q :: R) = (if gp S1 p = true then 1 else 0) + ((if gp S2 q = true then 1 else 0) + m) := by
  rw [Tr.helds, Tr.helds, List.nodup_append, List.nodup_append] at n
  rw [Tr.oks, Tr.oks] at o
  obtain ⟨n1, ⟨n2, n3, n4⟩, n5⟩ := n
  have d1 : ∀ x ∈ p.held, x ∉ q.held := fun x a b => n5 x a x (List.mem_append_left _ b) rfl
  have d2 : ∀ x ∈ p.held, x ∉ Tr.helds R := fun x a b => n5 x a x (List.mem_append_right _ b) rfl
  have d3 : ∀ x ∈ q.held, x ∉ Tr.helds R := fun x a b => n4 x a x b rfl
  rw [cp, cp, gp_mix, cp_mix d2, cp_mix d3, cp_first o.2.2 n3 hm fun x _ => rfl]
  congr 1
  congr 1
  have : gp (mix p S1 (mix q S2 (firstOn R m))) q = gp S2 q := by
    rw [← gp_mix q S2 (firstOn R m)]
    exact gp_congr q fun x hx => mix_out fun z => d1 x z hx
  rw [this]
theorem and_cross {k : Int} {ps : List Tr} {p q : Tr} (hp : p ∈ ps) (hq : q ∈ ps) (ne : p ≠ q) (o : Tr.oks ps) (n : (Tr.helds ps).Nodup) (hk : 2 ≤ k) (hl : k ≤ ps.length) {x y : Int} (hx : x ∈ p.held) (hy : y ∈ q.held) : And2 (.t k ps) x y := by
  obtain ⟨R, hR⟩ := two_of hp hq ne
  have o' := oks_perm hR o
  have n' := (helds_perm hR).nodup_iff.mp n
  have hlen := hR.length_eq
  rw [List.length_cons, List.length_cons] at hlen
  have np : p.held.Nodup ∧ q.held.Nodup ∧ y ∉ p.held ∧ x ∉ q.held := by
    rw [Tr.helds, Tr.helds, List.nodup_append, List.nodup_append] at n'
    exact ⟨n'.1, n'.2.1.1, fun z => n'.2.2 y z y (List.mem_append_left _ hy) rfl, fun z => n'.2.2 x hx x (List.mem_append_left _ z) rfl⟩
  obtain ⟨S1, a1, a2⟩ := ess p (oks_all.mp o p hp) np.1 x hx
  obtain ⟨S2, b1, b2⟩ := ess q (oks_all.mp o q hq) np.2.1 y hy
  have wx : ∀ A B : Int → Bool, wi (mix p A (mix q B (firstOn R (k - 2).toNat))) x = mix p (wi A x) (mix q B (firstOn R (k - 2).toNat)) := fun A B => wi_mix hx
  have wy : ∀ A B : Int → Bool, wi (mix p A (mix q B (firstOn R (k - 2).toNat))) y = mix p A (mix q (wi B y) (firstOn R (k - 2).toNat)) := fun A B => by rw [wi_mix_out np.2.2.1, wi_mix hy]
  refine ⟨mix p S1 (mix q S2 (firstOn R (k - 2).toNat)), ?_, ?_, ?_⟩
  · rw [wx, wy, gp, cp_perm _ hR, cp_two o' n' (by omega), a2, b2]
    exact decide_eq_true (by simp; omega)
  · rw [wx, gp, cp_perm _ hR, cp_two o' n' (by omega), a2, b1]
    exact decide_eq_false (by simp; omega)
  · rw [wy, gp, cp_perm _ hR, cp_two o' n' (by omega), a1, b2]
    exact decide_eq_false (by simp; omega)
/-- a one-of: no two buttons of two parts are wanted both -/
theorem no_and {ps : List Tr} {p q : Tr} (hp : p ∈ ps) (hq : q ∈ ps) (ne : p ≠ q) (n : (Tr.helds ps).Nodup) {x y : Int} (hx : x ∈ p.held) (hy : y ∈ q.held) : ¬ And2 (.t 1 ps) x y := by
  rintro ⟨S, h1, h2, h3⟩
  obtain ⟨R, hR⟩ := two_of hp hq ne
  have n' := (helds_perm hR).nodup_iff.mp n
  rw [Tr.helds, Tr.helds, List.nodup_append, List.nodup_append] at n'
  have y1 : y ∉ p.held := fun z => n'.2.2 y z y (List.mem_append_left _ hy) rfl
  have x1 : x ∉ q.held := fun z => n'.2.2 x hx x (List.mem_append_left _ z) rfl
  have yR : y ∉ Tr.helds R := fun z => n'.2.1.2.2 y hy y z rfl
  rw [gp, cp_perm _ hR, cp, cp] at h1 h2 h3
  have h1 := of_decide_eq_true h1
  have h2 := of_decide_eq_false h2
  have h3 := of_decide_eq_false h3
  rw [wi_out y1] at h1
  have e2 : gp (wi (wi S x) y) q = gp (wi S y) q := gp_congr q fun i hi => by
    have : i ≠ x := fun e => x1 (e ▸ hi)
    simp [wi, this]
  have e3 : cp (wi (wi S x) y) R = cp (wi S x) R := cp_congr R fun i hi => wi_ne fun e => yR (e ▸ hi)
  rw [e2, e3] at h1
  omega
/-- two of one part, one of another: no majority -/
theorem no_maj {k : Int} {ps : List Tr} {p q : Tr} (hp : p ∈ ps) (hq : q ∈ ps) (ne : p ≠ q) (n : (Tr.helds ps).Nodup) {x y z : Int} (hx : x ∈ p.held) (hy : y ∈ p.held) (hz : z ∈ q.held) : ¬ Maj3 (.t k ps) x y z := by
  rintro ⟨S, h1, h2, h3, h4, h5, h6⟩
  obtain ⟨R, hR⟩ := two_of hp hq ne
  have n' := (helds_perm hR).nodup_iff.mp n
  rw [Tr.helds, Tr.helds, List.nodup_append, List.nodup_append] at n'
  have z1 : z ∉ p.held := fun w => n'.2.2 z w z (List.mem_append_left _ hz) rfl
  have x1 : x ∉ q.held := fun w => n'.2.2 x hx x (List.mem_append_left _ w) rfl
  have y1 : y ∉ q.held := fun w => n'.2.2 y hy y (List.mem_append_left _ w) rfl
  have xR : x ∉ Tr.helds R := fun w => n'.2.2 x hx x (List.mem_append_right _ w) rfl
  have yR : y ∉ Tr.helds R := fun w => n'.2.2 y hy y (List.mem_append_right _ w) rfl
  have zR : z ∉ Tr.helds R := fun w => n'.2.1.2.2 z hz z w rfl
  have cR : ∀ (A : Int → Bool) (u : Int), u ∉ Tr.helds R → cp (wi A u) R = cp A R := fun A u hu => cp_congr R fun i hi => wi_ne fun e => hu (e ▸ hi)
  rw [gp, cp_perm _ hR, cp, cp] at h1 h3 h4 h5
  have h1 := of_decide_eq_false h1
  have h3 := of_decide_eq_false h3
  have h4 := of_decide_eq_true h4
  have h5 := of_decide_eq_true h5
  rw [wi_out x1, cR _ _ xR] at h1
  rw [wi_out z1, cR _ _ zR] at h3
  rw [wi_out y1, wi_out x1, cR _ _ yR, cR _ _ xR] at h4
  rw [wi_out z1, cR _ _ zR, cR _ _ xR] at h5
  have e5 : gp (wi (wi S x) z) q = gp (wi S z) q := gp_congr q fun i hi => by
    have : i ≠ x := fun e => x1 (e ▸ hi)
    simp [wi, this]
  rw [e5] at h5
  have t1 : (if gp (wi (wi S x) y) p = true then 1 else 0) ≤ 1 := by split <;> omega
  have t2 : (if gp (wi S x) p = true then 1 else 0) = 0 ∨ (if gp (wi S x) p = true then 1 else 0) = 1 := by split <;> omega
  have t3 : (if gp S p = true then 1 else 0) = 0 ∨ (if gp S p = true then 1 else 0) = 1 := by split <;> omega
  omega
theorem cp_three {p q r : Tr} {R : List Tr} {m : Nat} (o : Tr.oks (p :: q :: r :: R)) (n : (Tr.helds (p :: q :: r :: R)).Nodup) (hm : m ≤ R.length) (S1 S2 S3 : Int → Bool) :
    cp (mix p S1 (mix q S2 (mix r S3 (firstOn R m)))) (p :: q :: r :: R) = (if gp S1 p = true then 1 else 0) + ((if gp S2 q = true then 1 else 0) + ((if gp S3 r = true then 1 else 0) + m)) := by
  have n0 := n
  rw [Tr.helds, List.nodup_append] at n
  have o0 := o
  rw [Tr.oks] at o
  have d1 : ∀ x ∈ p.held, x ∉ Tr.helds (q :: r :: R) := fun x a b => n.2.2 x a x b rfl
  rw [cp, gp_mix, cp_mix d1, cp_two o.2 n.2.1 hm]
theorem maj_cross {k : Int} {ps : List Tr} {p q r : Tr} (hp : p ∈ ps) (hq : q ∈ ps) (hr : r ∈ ps) (ne1 : p ≠ q) (ne2 : p ≠ r) (ne3 : q ≠ r) (o : Tr.oks ps) (n : (Tr.helds ps).Nodup) (hk : 2 ≤ k) (hl : k < ps.length) {x y z : Int} (hx : x ∈ p.held) (hy : y ∈ q.held) (hz : z ∈ r.held) : Maj3 (.t k ps) x y z := by
  obtain ⟨R, hR⟩ := three_of hp hq hr ne1 ne2 ne3
  have o' := oks_perm hR o
  have n' := (helds_perm hR).nodup_iff.mp n
  have hlen := hR.length_eq
  rw [List.length_cons, List.length_cons, List.length_cons] at hlen
  have nn := n'
  rw [Tr.helds, Tr.helds, Tr.helds, List.nodup_append, List.nodup_append, List.nodup_append] at nn
  obtain ⟨m1, ⟨m2, ⟨m3, m4, m5⟩, m6⟩, m7⟩ := nn
  have yp : y ∉ p.held := fun w => m7 y w y (List.mem_append_left _ hy) rfl
  have zp : z ∉ p.held := fun w => m7 z w z (List.mem_append_right _ (List.mem_append_left _ hz)) rfl
  have zq : z ∉ q.held := fun w => m6 z w z (List.mem_append_left _ hz) rfl
  obtain ⟨S1, a1, a2⟩ := ess p (oks_all.mp o p hp) m1 x hx
  obtain ⟨S2, b1, b2⟩ := ess q (oks_all.mp o q hq) m2 y hy
  obtain ⟨S3, c1, c2⟩ := ess r (oks_all.mp o r hr) m3 z hz
  have wx : ∀ A B C : Int → Bool, wi (mix p A (mix q B (mix r C (firstOn R (k - 2).toNat)))) x = mix p (wi A x) (mix q B (mix r C (firstOn R (k - 2).toNat))) := fun A B C => wi_mix hx
  have wy : ∀ A B C : Int → Bool, wi (mix p A (mix q B (mix r C (firstOn R (k - 2).toNat)))) y = mix p A (mix q (wi B y) (mix r C (firstOn R (k - 2).toNat))) := fun A B C => by rw [wi_mix_out yp, wi_mix hy]
  have wz : ∀ A B C : Int → Bool, wi (mix p A (mix q B (mix r C (firstOn R (k - 2).toNat)))) z = mix p A (mix q B (mix r (wi C z) (firstOn R (k - 2).toNat))) := fun A B C => by rw [wi_mix_out zp, wi_mix_out zq, wi_mix hz]
  have ev : ∀ A B C : Int → Bool, gp (mix p A (mix q B (mix r C (firstOn R (k - 2).toNat)))) (.t k ps) = decide (k ≤ (((if gp A p = true then 1 else 0) + ((if gp B q = true then 1 else 0) + ((if gp C r = true then 1 else 0) + (k - 2).toNat)) : Nat) : Int)) := fun A B C => by
    rw [gp, cp_perm _ hR, cp_three o' n' (by omega)]
  refine ⟨mix p S1 (mix q S2 (mix r S3 (firstOn R (k - 2).toNat))), ?_, ?_, ?_, ?_, ?_, ?_⟩
  · rw [wx, ev, a2, b1, c1]; exact decide_eq_false (by simp; omega)
  · rw [wy, ev, a1, b2, c1]; exact decide_eq_false (by simp; omega)
  · rw [wz, ev, a1, b1, c2]; exact decide_eq_false (by simp; omega)
  · rw [wx, wy, ev, a2, b2, c1]; exact decide_eq_true (by simp; omega)
  · rw [wx, wz, ev, a2, b1, c2]; exact decide_eq_true (by simp; omega)
  · rw [wy, wz, ev, a1, b2, c2]; exact decide_eq_true (by simp; omega)
/-! ### parts are told by what the tree does -/
theorem part_of {x : Int} {ps : List Tr} (h : x ∈ Tr.helds ps) : ∃ p ∈ ps, x ∈ p.held := by
  rw [helds_eq] at h
  exact List.mem_flatMap.mp h
theorem in_helds {x : Int} {p : Tr} {ps : List Tr} (hp : p ∈ ps) (h : x ∈ p.held) : x ∈ Tr.helds ps := by
  rw [helds_eq]
  exact List.mem_flatMap.mpr ⟨p, hp, h⟩
theorem other_part {qs : List Tr} {q : Tr} (hq : q ∈ qs) (h1 : qs.length ≠ 1) (o : Tr.oks qs) (n : (Tr.helds qs).Nodup) : ∃ q2 ∈ qs, q2 ≠ q ∧ ∃ z, z ∈ q2.held := by
  obtain ⟨R, hR⟩ := one_of hq
  obtain ⟨_, _, n3⟩ := apart hR n
  have hl := hR.length_eq
  rw [List.length_cons] at hl
  match R, hR, n3, hl with
  | [], _, _, hl => exact absurd hl h1
  | q2 :: R, hR, n3, _ =>
    have h2 : q2 ∈ qs := hR.mem_iff.mpr (List.mem_cons_of_mem _ List.mem_cons_self)
    refine ⟨q2, h2, fun e => ?_, q2.least, least_mem q2 (oks_all.mp o q2 h2)⟩
    have := least_mem q (oks_all.mp o q hq)
    exact n3 _ this (by rw [Tr.helds, e]; exact List.mem_append_left _ this)
theorem third_part {ps : List Tr} {p q : Tr} (hp : p ∈ ps) (hq : q ∈ ps) (ne : p ≠ q) (h1 : 3 ≤ ps.length) (o : Tr.oks ps) (n : (Tr.helds ps).Nodup) : ∃ r ∈ ps, r ≠ p ∧ r ≠ q ∧ ∃ z, z ∈ r.held := by
  obtain ⟨R, hR⟩ := two_of hp hq ne
  have hl := hR.length_eq
  have n' := (helds_perm hR).nodup_iff.mp n
  rw [List.length_cons, List.length_cons] at hl
  match R, hR, n', hl with
  | [], _, _, hl => simp at hl; omega
  | r :: R, hR, n', _ =>
    have h2 : r ∈ ps := hR.mem_iff.mpr (List.mem_cons_of_mem _ (List.mem_cons_of_mem _ List.mem_cons_self))
    have hz := least_mem r (oks_all.mp o r h2)
    rw [Tr.helds, Tr.helds, Tr.helds, List.nodup_append, List.nodup_append] at n'
    exact ⟨r, h2, fun e => n'.2.2 r.least (e ▸ hz) r.least (List.mem_append_right _ (List.mem_append_left _ hz)) rfl, fun e => n'.2.1.2.2 r.least (e ▸ hz) r.least (List.mem_append_left _ hz) rfl, r.least, hz⟩
structure Fine (t : Tr) : Prop where
  ok : t.ok
  plain : t.plain
  nodup : t.held.Nodup
theorem Fine.part {k : Int} {ps : List Tr} (h : Fine (.t k ps)) {p : Tr} (hp : p ∈ ps) : Fine p := by
  obtain ⟨a, b, c⟩ := h
  rw [Tr.ok] at a
  rw [Tr.plain] at b
  rw [Tr.held] at c
  obtain ⟨R, hR⟩ := one_of hp
  exact ⟨oks_all.mp a.2.2 p hp, plains_all.mp b.2.2.2 p hp, (apart hR c).1⟩
theorem and_same {s t : Tr} (h : ∀ S, gp S s = gp S t) {x y : Int} : And2 s x y → And2 t x y := by
  rintro ⟨S, a, b, c⟩
  rw [h] at a b c
  exact ⟨S, a, b, c⟩
theorem maj_same {s t : Tr} (h : ∀ S, gp S s = gp S t) {x y z : Int} : Maj3 s x y z → Maj3 t x y z := by
  rintro ⟨S, a, b, c, d, e, f⟩
  rw [h] at a b c d e f
  exact ⟨S, a, b, c, d, e, f⟩
theorem held_eq {s t : Tr} (hs : Fine s) (ht : Fine t) (h : ∀ S, gp S s = gp S t) (x : Int) : x ∈ s.held ↔ x ∈ t.held :=
  ⟨held_same hs.ok hs.nodup h x, held_same ht.ok ht.nodup (fun S => (h S).symm) x⟩
theorem coarse_one {ps qs : List Tr} {l : Int} (hs : Fine (.t 1 ps)) (ht : Fine (.t l qs)) (h : ∀ S, gp S (.t 1 ps) = gp S (.t l qs)) {p p' q : Tr} (hp : p ∈ ps) (hp' : p' ∈ ps) (ne : p ≠ p') (hq : q ∈ qs) {x y : Int} (hx : x ∈ p.held) (hy : y ∈ p'.held) (qx : x ∈ q.held) (qy : y ∈ q.held) : False := by
  have os := hs.ok
  have ot := ht.ok
  have pt := ht.plain
  have ns := hs.nodup
  have nt := ht.nodup
  rw [Tr.ok] at os ot
  rw [Tr.plain] at pt
  rw [Tr.held] at ns nt
  have xy : x ≠ y := fun e => ne (one_of_helds ns hp hp' hx (e ▸ hy))
  have far : ∀ z, z ∈ Tr.helds ps → ¬ And2 (.t 1 ps) x z ∨ ¬ And2 (.t 1 ps) y z := fun z hz => by
    obtain ⟨pz, hpz, hz⟩ := part_of hz
    by_cases e : p = pz
    · exact .inr (no_and hp' hpz (fun e' => ne (e.trans e'.symm)) ns hy hz)
    · exact .inl (no_and hp hpz e ns hx hz)
  have hin : ∀ {u : Tr} {z : Int}, u ∈ qs → z ∈ u.held → z ∈ Tr.helds ps := fun {u z} hu hz => by
    have := (held_eq hs ht h z).mpr (by rw [Tr.held]; exact in_helds hu hz)
    rw [Tr.held] at this
    exact this
  obtain ⟨q2, hq2, nq, z, hz⟩ := other_part hq pt.1 ot.2.2 nt
  have l1 : l = 1 := Decidable.byContradiction fun e => by
    have a1 := and_same (fun S => (h S).symm) (and_cross (k := l) hq hq2 nq.symm ot.2.2 nt (by omega) ot.2.1 qx hz)
    have a2 := and_same (fun S => (h S).symm) (and_cross (k := l) hq hq2 nq.symm ot.2.2 nt (by omega) ot.2.1 qy hz)
    rcases far z (hin hq2 hz) with f | f
    · exact f a1
    · exact f a2
  subst l1
  have fq := ht.part hq
  cases q with
  | b i =>
    rw [Tr.held, List.mem_singleton] at qx qy
    exact xy (qx.trans qy.symm)
  | t j us =>
    have oq := fq.ok
    have pq := fq.plain
    have nq' := fq.nodup
    rw [Tr.ok] at oq
    rw [Tr.plain] at pq
    rw [Tr.held] at nq' qx qy
    have w1 : wordOf 1 (qs.length : Int) = .one := by unfold wordOf; rw [if_pos rfl]
    have nj : j ≠ 1 := fun e => by
      have := pt.2.1 (by rw [w1]; intro z; cases z) _ hq
      rw [w1, e] at this
      exact this (by show wordOf 1 _ = .one; unfold wordOf; rw [if_pos rfl])
    have lift : ∀ {a b : Int}, a ∈ Tr.helds us → b ∈ Tr.helds us → And2 (.t j us) a b → And2 (.t 1 ps) a b := fun {a b} ha hb hab =>
      and_same (fun S => (h S).symm) (and_lift hq ot.2.2 nt ot.1 ot.2.1 (by rw [Tr.held]; exact ha) (by rw [Tr.held]; exact hb) hab)
    obtain ⟨ux, hux, xu⟩ := part_of qx
    obtain ⟨uy, huy, yu⟩ := part_of qy
    by_cases e : ux = uy
    · subst e
      obtain ⟨u2, hu2, nu, w, hw⟩ := other_part hux pq.1 oq.2.2 nq'
      have a1 := lift qx (in_helds hu2 hw) (and_cross hux hu2 nu.symm oq.2.2 nq' (by omega) oq.2.1 xu hw)
      have a2 := lift qy (in_helds hu2 hw) (and_cross hux hu2 nu.symm oq.2.2 nq' (by omega) oq.2.1 yu hw)
      rcases far w (hin hq (by rw [Tr.held]; exact in_helds hu2 hw)) with f | f
      · exact f a1
      · exact f a2
    · exact no_and hp hp' ne ns hx hy (lift qx qy (and_cross hux huy e oq.2.2 nq' (by omega) oq.2.1 xu yu))
theorem coarse_mid {ps qs : List Tr} {k l : Int} (hs : Fine (.t k ps)) (ht : Fine (.t l qs)) (h : ∀ S, gp S (.t k ps) = gp S (.t l qs)) (k2 : 2 ≤ k) (kn : k < ps.length) {p p' q : Tr} (hp : p ∈ ps) (hp' : p' ∈ ps) (ne : p ≠ p') (hq : q ∈ qs) {x y : Int} (hx : x ∈ p.held) (hy : y ∈ p'.held) (qx : x ∈ q.held) (qy : y ∈ q.held) : False := by
  have os := hs.ok
  have ot := ht.ok
  have pt := ht.plain
  have ns := hs.nodup
  have nt := ht.nodup
  rw [Tr.ok] at os ot
  rw [Tr.plain] at pt
  rw [Tr.held] at ns nt
  obtain ⟨q2, hq2, nq, z, hz⟩ := other_part hq pt.1 ot.2.2 nt
  have hzs : z ∈ Tr.helds ps := by
    have := (held_eq hs ht h z).mpr (by rw [Tr.held]; exact in_helds hq2 hz)
    rw [Tr.held] at this
    exact this
  obtain ⟨pz, hpz, hz'⟩ := part_of hzs
  obtain ⟨p3, hp3, n31, n32, w, hw⟩ := third_part hp hp' ne (by omega) os.2.2 ns
  have mj : Maj3 (.t l qs) x y w := maj_same h (maj_cross hp hp' hp3 ne n31.symm n32.symm os.2.2 ns k2 kn hx hy hw)
  have hwq : w ∈ q.held := by
    have := (held_eq hs ht h w).mp (by rw [Tr.held]; exact in_helds hp3 hw)
    rw [Tr.held] at this
    obtain ⟨qw, hqw, wq⟩ := part_of this
    by_cases e : q = qw
    · rw [e]; exact wq
    · exact absurd mj (no_maj hq hqw e nt qx qy wq)
  by_cases e1 : pz = p
  · subst e1
    exact no_maj hq hq2 nq.symm nt qy hwq hz (maj_same h (maj_cross hp' hp3 hpz n32.symm ne.symm n31 os.2.2 ns k2 kn hy hw hz'))
  · by_cases e2 : pz = p'
    · subst e2
      exact no_maj hq hq2 nq.symm nt qx hwq hz (maj_same h (maj_cross hp hp3 hpz n31.symm ne n32 os.2.2 ns k2 kn hx hw hz'))
    · exact no_maj hq hq2 nq.symm nt qx qy hz (maj_same h (maj_cross hp hp' hpz ne (fun e => e1 e.symm) (fun e => e2 e.symm) os.2.2 ns k2 kn hx hy hz'))
/-! contrary trees do the contrary -/
mutual
theorem gp_con (S : Int → Bool) : ∀ t : Tr, gp S (con t) = !gp (fun i => !S i) t
  | .b i => by rw [con, gp, gp, Bool.not_not]
  | .t k ps => by
    have := cp_con S ps
    rw [con, gp, gp]
    by_cases hk : k ≤ (cp (fun i => !S i) ps : Int)
    · rw [decide_eq_true hk]
      exact decide_eq_false (by omega)
    · rw [decide_eq_false hk]
      exact decide_eq_true (by omega)
theorem cp_con (S : Int → Bool) : ∀ ps : List Tr, cp S (cons ps) + cp (fun i => !S i) ps = ps.length
  | [] => by rw [cons, cp, cp]; rfl
  | p :: r => by
    have h1 := gp_con S p
    have h2 := cp_con S r
    rw [cons, cp, cp, h1, List.length_cons]
    cases gp (fun i => !S i) p <;> simp <;> omega
end
theorem Fine.con {t : Tr} (h : Fine t) : Fine (con t) := by
  refine ⟨con_ok t h.ok, ?_, by rw [con_held]; exact h.nodup⟩
  have : tell (Own.con t) = Own.con t := by rw [tell_con t h.ok, tell_plain t h.plain]
  rw [← this]
  exact plain_tell _ (con_ok t h.ok)
theorem con_inj {a b : Tr} (h : con a = con b) : a = b := by rw [← con_con a, h, con_con]
theorem coarse {ps qs : List Tr} {k l : Int} (hs : Fine (.t k ps)) (ht : Fine (.t l qs)) (h : ∀ S, gp S (.t k ps) = gp S (.t l qs)) {p p' q : Tr} (hp : p ∈ ps) (hp' : p' ∈ ps) (ne : p ≠ p') (hq : q ∈ qs) {x y : Int} (hx : x ∈ p.held) (hy : y ∈ p'.held) (qx : x ∈ q.held) (qy : y ∈ q.held) : False := by
  have os := hs.ok
  rw [Tr.ok] at os
  by_cases k1 : k = 1
  · subst k1
    exact coarse_one hs ht h hp hp' ne hq hx hy qx qy
  · by_cases kn : k = (ps.length : Int)
    · have cs := hs.con
      have ct := ht.con
      have hc : ∀ S, gp S (con (.t k ps)) = gp S (con (.t l qs)) := fun S => by rw [gp_con, gp_con, h]
      rw [con] at cs hc
      rw [con] at ct hc
      have e1 : (ps.length : Int) - k + 1 = 1 := by omega
      rw [e1] at cs hc
      have mc : ∀ {u : Tr} {us : List Tr}, u ∈ us → con u ∈ cons us := fun {u us} hu => by
        rw [cons_eq]
        exact List.mem_map.mpr ⟨u, hu, rfl⟩
      exact coarse_one cs ct hc (mc hp) (mc hp') (fun e => ne (con_inj e)) (mc hq) (x := x) (y := y) (by rw [con_held]; exact hx) (by rw [con_held]; exact hy) (by rw [con_held]; exact qx) (by rw [con_held]; exact qy)
    · exact coarse_mid hs ht h (by omega) (by omega) hp hp' ne hq hx hy qx qy
/-! sorted rows with the same members -/
theorem strict {ps : List Tr} (o : Tr.oks ps) (n : (Tr.helds ps).Nodup) (h : ps.Pairwise fun a b => a.least ≤ b.least) : ps.Pairwise fun a b => a.least < b.least := by
  induction ps with
  | nil => exact .nil
  | cons p r ih =>
    rw [Tr.oks] at o
    rw [Tr.helds, List.nodup_append] at n
    rw [List.pairwise_cons] at h ⊢
    refine ⟨fun q hq => ?_, ih o.2 n.2.1 h.2⟩
    have h1 := h.1 q hq
    have : p.least ≠ q.least := fun e => n.2.2 p.least (least_mem p o.1) p.least (in_helds hq (e ▸ least_mem q (oks_all.mp o.2 q hq))) rfl
    omega
theorem sorted_eq : ∀ {A B : List Tr}, A.Pairwise (fun a b => a.least < b.least) → B.Pairwise (fun a b => a.least < b.least) → (∀ x, x ∈ A ↔ x ∈ B) → A = B
  | [], [], _, _, _ => rfl
  | [], b :: _, _, _, h => absurd ((h b).mpr List.mem_cons_self) (by simp)
  | a :: _, [], _, _, h => absurd ((h a).mp List.mem_cons_self) (by simp)
  | a :: A, b :: B, hA, hB, h => by
    rw [List.pairwise_cons] at hA hB
    have e : a = b := by
      rcases List.mem_cons.mp ((h a).mp List.mem_cons_self) with e | e
      · exact e
      · rcases List.mem_cons.mp ((h b).mpr List.mem_cons_self) with e' | e'
        · exact e'.symm
        · have h1 := hB.1 a e
          have h2 := hA.1 b e'
          omega
    subst e
    rw [sorted_eq hA.2 hB.2 fun x => ?_]
    constructor
    · intro hx
      rcases List.mem_cons.mp ((h x).mp (List.mem_cons_of_mem _ hx)) with e | e
      · have := hA.1 x hx
        rw [e] at this
        omega
      · exact e
    · intro hx
      rcases List.mem_cons.mp ((h x).mpr (List.mem_cons_of_mem _ hx)) with e | e
      · have := hB.1 x hx
        rw [e] at this
        omega
      · exact e
theorem len_two {k : Int} {ps : List Tr} (h : Fine (.t k ps)) : 2 ≤ (Tr.t k ps).held.length := by
  have o := h.ok
  have p := h.plain
  rw [Tr.ok] at o
  rw [Tr.plain] at p
  rw [Tr.held]
  have := oks_pos ps o.2.2
  omega
theorem nodup_len : ∀ {A B : List Int}, A.Nodup → (∀ x ∈ A, x ∈ B) → A.length ≤ B.length
  | [], _, _, _ => Nat.zero_le _
  | a :: A, B, hA, h => by
    obtain ⟨B1, B2, rfl⟩ := List.append_of_mem (h a List.mem_cons_self)
    rw [List.nodup_cons] at hA
    have := nodup_len (A := A) (B := B1 ++ B2) hA.2 fun x hx => by
      have hx' := h x (List.mem_cons_of_mem _ hx)
      rcases List.mem_append.mp hx' with z | z
      · exact List.mem_append_left _ z
      · rcases List.mem_cons.mp z with e | z
        · rw [e] at hx
          exact absurd hx hA.1
        · exact List.mem_append_right _ z
    rw [List.length_append, List.length_cons, List.length_cons]
    rw [List.length_append] at this
    omega
theorem uniq_bt {i : Int} {l : Int} {qs : List Tr} (hs : Fine (.b i)) (ht : Fine (.t l qs)) (h : ∀ S, gp S (.b i) = gp S (.t l qs)) : False := by
  have h2 := len_two ht
  have hm := fun x => (held_eq hs ht h x).mpr
  have nd := ht.nodup
  match e : (Tr.t l qs).held, h2, nd, hm with
  | [], h2, _, _ => simp at h2
  | [_], h2, _, _ => simp at h2
  | a :: b :: _, _, nd, hm =>
    have ha := hm a List.mem_cons_self
    have hb := hm b (List.mem_cons_of_mem _ List.mem_cons_self)
    rw [Tr.held, List.mem_singleton] at ha hb
    rw [List.nodup_cons] at nd
    exact nd.1 (by rw [ha, ← hb]; exact List.mem_cons_self)
theorem uniq_le : ∀ (n : Nat) (s t : Tr), s.held.length ≤ n → Fine s → Fine t → (∀ S, gp S s = gp S t) → s = t
  | 0, s, t, hn, hs, _, _ => by
    have := ok_pos s hs.ok
    omega
  | n + 1, .b i, .b j, _, hs, ht, h => by
    have := (held_eq hs ht h i).mp (by rw [Tr.held]; exact List.mem_singleton.mpr rfl)
    rw [Tr.held, List.mem_singleton] at this
    rw [this]
  | n + 1, .b i, .t l qs, _, hs, ht, h => (uniq_bt hs ht h).elim
  | n + 1, .t k ps, .b j, _, hs, ht, h => (uniq_bt ht hs fun S => (h S).symm).elim
  | n + 1, .t k ps, .t l qs, hn, hs, ht, h => by
    have os := hs.ok
    have ot := ht.ok
    have pls := hs.plain
    have plt := ht.plain
    have ns := hs.nodup
    have nt := ht.nodup
    rw [Tr.ok] at os ot
    rw [Tr.plain] at pls plt
    rw [Tr.held] at ns nt
    have same : ∀ (k l : Int) (ps qs : List Tr), Fine (.t k ps) → Fine (.t l qs) → (∀ S, gp S (.t k ps) = gp S (.t l qs)) → ∀ p ∈ ps, ∀ q ∈ qs, ∀ x0, x0 ∈ p.held → x0 ∈ q.held → ∀ y, y ∈ p.held → y ∈ q.held := by
      intro k l ps qs hs ht h p hp q hq x0 h1 h2 y hy
      have := (held_eq hs ht h y).mp (by rw [Tr.held]; exact in_helds hp hy)
      rw [Tr.held] at this
      obtain ⟨qy, hqy, yq⟩ := part_of this
      by_cases e : q = qy
      · rw [e]; exact yq
      · exact (coarse ht hs (fun S => (h S).symm) hq hqy e hp h2 yq h1 hy).elim
    have sub : ∀ (k l : Int) (ps qs : List Tr), Fine (.t k ps) → Fine (.t l qs) → (∀ S, gp S (.t k ps) = gp S (.t l qs)) → (∀ p ∈ ps, p.held.length ≤ n) → ∀ p ∈ ps, p ∈ qs := by
      intro k l ps qs hs ht h hsm p hp
      have os := hs.ok
      have ot := ht.ok
      have ns := hs.nodup
      have nt := ht.nodup
      rw [Tr.ok] at os ot
      rw [Tr.held] at ns nt
      have fp := hs.part hp
      have hx0 := least_mem p fp.ok
      have := (held_eq hs ht h p.least).mp (by rw [Tr.held]; exact in_helds hp hx0)
      rw [Tr.held] at this
      obtain ⟨q, hq, hxq⟩ := part_of this
      have s1 := same k l ps qs hs ht h p hp q hq _ hx0 hxq
      have s2 := same l k qs ps ht hs (fun S => (h S).symm) q hq p hp _ hxq hx0
      obtain ⟨R, hR⟩ := one_of hp
      obtain ⟨Q, hQ⟩ := one_of hq
      obtain ⟨_, _, n3⟩ := apart hQ nt
      have key : ∀ S0, gp S0 p = decide (l ≤ (((if gp S0 q = true then 1 else 0) + cp (firstOn R (k - 1).toNat) Q : Nat) : Int)) := by
        intro S0
        have e1 := h (mix p S0 (firstOn R (k - 1).toNat))
        rw [gp_part hR os.2.2 ns os.1 os.2.1, gp, cp_perm _ hQ, cp] at e1
        rw [e1, gp_congr q fun x hx => mix_in (s2 x hx), cp_mix fun x hx => n3 x (s1 x hx)]
      have t1 := key fun _ => true
      have t2 := key fun _ => false
      rw [gp_on p fp.ok fun _ _ => rfl, gp_on q (ht.part hq).ok fun _ _ => rfl] at t1
      rw [gp_off p fp.ok fun _ _ => rfl, gp_off q (ht.part hq).ok fun _ _ => rfl] at t2
      have t1 := of_decide_eq_true t1.symm
      have t2 := of_decide_eq_false t2.symm
      simp at t1 t2
      have : p = q := uniq_le n p q (hsm p hp) fp (ht.part hq) fun S0 => by
        rw [key S0]
        cases gp S0 q with
        | true => exact decide_eq_true (by simp; omega)
        | false => exact decide_eq_false (by simp; omega)
      rw [this]
      exact hq
    have small : ∀ (k : Int) (ps : List Tr), Fine (.t k ps) → (Tr.t k ps).held.length ≤ n + 1 → ∀ p ∈ ps, p.held.length ≤ n := by
      intro k ps hs hn p hp
      have pl := hs.plain
      have o := hs.ok
      rw [Tr.plain] at pl
      rw [Tr.ok] at o
      have nn := hs.nodup
      rw [Tr.held] at nn
      obtain ⟨R, hR⟩ := one_of hp
      have hl := (helds_perm hR).length_eq
      rw [Tr.helds, List.length_append] at hl
      have oR := oks_perm hR o.2.2
      rw [Tr.oks] at oR
      have h1 := oks_pos R oR.2
      have h2 := hR.length_eq
      rw [List.length_cons] at h2
      rw [Tr.held] at hn
      have := pl.1
      omega
    have hn2 : (Tr.t l qs).held.length ≤ n + 1 := Nat.le_trans (nodup_len ht.nodup fun x hx => (held_eq hs ht h x).mpr hx) hn
    have e1 := sub k l ps qs hs ht h (small k ps hs hn)
    have e2 := sub l k qs ps ht hs (fun S => (h S).symm) (small l qs ht hn2)
    have epq : ps = qs := sorted_eq (strict os.2.2 ns pls.2.2.1) (strict ot.2.2 nt plt.2.2.1) fun x => ⟨e1 x, e2 x⟩
    subst epq
    have kl : k = l := by
      have h1 := h (firstOn ps k.toNat)
      have h2 := h (firstOn ps l.toNat)
      rw [gp, gp, cp_first os.2.2 ns (by omega) fun x _ => rfl] at h1 h2
      rw [decide_eq_true (show k ≤ (k.toNat : Int) by omega)] at h1
      rw [decide_eq_true (show l ≤ (l.toNat : Int) by omega)] at h2
      have h1 := of_decide_eq_true h1.symm
      have h2 := of_decide_eq_true h2
      omega
    rw [kl]
/-- trees that do the same have one told tree -/
theorem uniq {s t : Tr} (hs : Fine s) (ht : Fine t) (h : ∀ S, gp S s = gp S t) : s = t := uniq_le _ s t (Nat.le_refl _) hs ht h
end Own

namespace Own
open PySem PySem.Spec PyProof.Rows L2
/-! ### what is left, as a function -/
def over (S : Int → Bool) (On Off : List Int) : Int → Bool := fun i => if i ∈ On then true else if i ∈ Off then false else S i
def gpR (S : Int → Bool) : Rs → Bool
  | .set b => b
  | .un t => gp S t
def cpR (S : Int → Bool) : List Rs → Nat
  | [] => 0
  | r :: rs => (if gpR S r = true then 1 else 0) + cpR S rs
theorem cpR_eq (S : Int → Bool) : ∀ rs : List Rs, cpR S rs = doneOf rs + cp S (openOf rs)
  | [] => by rw [cpR, doneOf, openOf, cp]
  | .set true :: rs => by rw [cpR, doneOf, openOf, cpR_eq S rs, gpR]; simp; omega
  | .set false :: rs => by rw [cpR, doneOf, openOf, cpR_eq S rs, gpR]; simp
  | .un t :: rs => by rw [cpR, doneOf, openOf, cpR_eq S rs, gpR, cp]; omega
theorem gpR_closed (S : Int → Bool) (k : Int) (rs : List Rs) : gpR S (closed (k - doneOf rs) (openOf rs)) = decide (k ≤ (cpR S rs : Int)) := by
  have h := cpR_eq S rs
  have hl := cp_le S (openOf rs)
  unfold closed
  split
  · rw [gpR]
    exact (decide_eq_true (by omega)).symm
  · split
    · rw [gpR, gp, h]
      by_cases c : k - (doneOf rs : Int) ≤ (cp S (openOf rs) : Int)
      · rw [decide_eq_true c]
        exact (decide_eq_true (by omega)).symm
      · rw [decide_eq_false c]
        exact (decide_eq_false (by omega)).symm
    · rw [gpR]
      exact (decide_eq_false (by omega)).symm
mutual
theorem gp_rest (S : Int → Bool) (On Off : List Int) : ∀ t : Tr, gpR S (Own.rest On Off t) = gp (over S On Off) t
  | .b i => by
    rw [Own.rest, gp, over]
    split
    · rfl
    · split
      · rfl
      · rw [gpR, gp]
  | .t k ps => by rw [Own.rest, gpR_closed, gp, cp_rests S On Off ps]
theorem cp_rests (S : Int → Bool) (On Off : List Int) : ∀ ps : List Tr, cpR S (rests On Off ps) = cp (over S On Off) ps
  | [] => by rw [rests, cpR, cp]
  | p :: r => by rw [rests, cpR, cp, gp_rest S On Off p, cp_rests S On Off r]
end
theorem gp_tell (S : Int → Bool) {t : Tr} (o : t.ok) : gp S (tell t) = gp S t := by
  obtain ⟨_, hp, _⟩ := tell_like t o
  have h := go_tell (t.held.filter fun x => S x) t o
  rw [go_gp, go_gp] at h
  have e : ∀ x ∈ t.held, (fun i => decide (i ∈ t.held.filter fun x => S x)) x = S x := fun x hx => by
    by_cases hs : S x = true
    · rw [hs]
      exact decide_eq_true (List.mem_filter.mpr ⟨hx, hs⟩)
    · have hs' : S x = false := by simpa using hs
      rw [hs']
      exact decide_eq_false fun q => hs (List.mem_filter.mp q).2
  rw [gp_congr (tell t) fun x hx => e x (hp.mem_iff.mp hx), gp_congr t e] at h
  exact h
theorem gpR_tell (S : Int → Bool) {On Off : List Int} {t : Tr} : gpR S (tellR (Own.rest On Off t)) = gp (over S On Off) t := by
  rw [← gp_rest S On Off t]
  cases e : Own.rest On Off t with
  | set b => rfl
  | un u => exact gp_tell S (rest_un e).1
theorem Fine.told {t : Tr} (o : t.ok) (n : t.held.Nodup) : Fine (tell t) := by
  obtain ⟨a, b, _⟩ := tell_like t o
  exact ⟨a, plain_tell t o, b.nodup_iff.mpr n⟩
def FineR : Rs → Prop
  | .set _ => True
  | .un t => Fine t
theorem fine_rest {On Off : List Int} {t : Tr} (n : t.held.Nodup) : FineR (tellR (Own.rest On Off t)) := by
  cases e : Own.rest On Off t with
  | set b => trivial
  | un u =>
    obtain ⟨a, _, c⟩ := rest_un e
    exact Fine.told a (n.sublist c)
theorem uniqR {r s : Rs} (hr : FineR r) (hs : FineR s) (h : ∀ S, gpR S r = gpR S s) : r = s := by
  have no : ∀ (b : Bool) (t : Tr), Fine t → (∀ S, b = gp S t) → False := fun b t ht hb => by
    have h1 := hb fun _ => true
    have h2 := hb fun _ => false
    rw [gp_on t ht.ok fun _ _ => rfl] at h1
    rw [gp_off t ht.ok fun _ _ => rfl] at h2
    rw [h1] at h2
    cases h2
  cases r with
  | set b =>
    cases s with
    | set c => rw [show b = c from h fun _ => true]
    | un t => exact (no b t hs h).elim
  | un t =>
    cases s with
    | set c => exact (no c t hr fun S => (h S).symm).elim
    | un u => rw [uniq hr hs h]
/-! what is left has none of the buttons -/
mutual
theorem rest_free {On Off : List Int} : ∀ {t u : Tr}, Own.rest On Off t = .un u → ∀ x ∈ u.held, x ∉ On ∧ x ∉ Off
  | .b i, u, h, x, hx => by
    rw [Own.rest] at h
    split at h
    · cases h
    · split at h
      · cases h
      · cases h
        rw [Tr.held, List.mem_singleton] at hx
        subst hx
        exact ⟨by assumption, by assumption⟩
  | .t k ps, u, h, x, hx => by
    rw [Own.rest] at h
    unfold closed at h
    split at h
    · cases h
    · split at h
      · cases h
        rw [Tr.held] at hx
        exact rests_free ps x hx
      · cases h
theorem rests_free {On Off : List Int} : ∀ ps : List Tr, ∀ x ∈ Tr.helds (openOf (rests On Off ps)), x ∉ On ∧ x ∉ Off
  | [], x, hx => by
    rw [rests, openOf, Tr.helds] at hx
    cases hx
  | p :: r, x, hx => by
    rw [rests] at hx
    cases e : Own.rest On Off p with
    | set b =>
      rw [e, openOf] at hx
      exact rests_free r x hx
    | un u =>
      rw [e, openOf, Tr.helds] at hx
      rcases List.mem_append.mp hx with z | z
      · exact rest_free e x z
      · exact rests_free r x z
end
/-- one step more -/
def stepR (On Off : List Int) : Rs → Rs
  | .set b => .set b
  | .un t => tellR (Own.rest On Off t)
theorem gp_step (S : Int → Bool) (On Off : List Int) (r : Rs) : gpR S (stepR On Off r) = gpR (over S On Off) r := by
  cases r with
  | set b => rfl
  | un t => exact gpR_tell S
theorem fine_step {On Off : List Int} {r : Rs} (h : FineR r) : FineR (stepR On Off r) := by
  cases r with
  | set b => trivial
  | un t => exact fine_rest h.nodup
def heldR : Rs → List Int
  | .set _ => []
  | .un t => t.held
theorem held_step {On Off : List Int} {r : Rs} (h : FineR r) : ∀ x ∈ heldR (stepR On Off r), x ∈ heldR r ∧ x ∉ On ∧ x ∉ Off := by
  cases r with
  | set b => exact fun x hx => nomatch hx
  | un t =>
    intro x hx
    show x ∈ t.held ∧ _
    cases e : Own.rest On Off t with
    | set b =>
      rw [stepR, e] at hx
      exact nomatch hx
    | un u =>
      obtain ⟨a, _, c⟩ := rest_un e
      rw [stepR, e] at hx
      have hx' : x ∈ u.held := (tell_like u a).2.mem_iff.mp hx
      exact ⟨c.subset hx', rest_free e x hx'⟩
/-- two that differ, differ with the button or without it -/
theorem step_parts {r s : Rs} (hr : FineR r) (hs : FineR s) (h : r ≠ s) (x : Int) (e : stepR [x] [] r = stepR [x] [] s) : stepR [] [x] r ≠ stepR [] [x] s := by
  intro e2
  refine h (uniqR hr hs fun S => ?_)
  by_cases hx : S x = true
  · have h1 := gp_step S [x] [] r
    have h2 := gp_step S [x] [] s
    have eo : over S [x] [] = S := by
      funext i
      unfold over
      by_cases hi : i ∈ [x]
      · rw [if_pos hi, List.mem_singleton.mp hi, hx]
      · rw [if_neg hi, if_neg (by simp)]
    rw [eo] at h1 h2
    rw [← h1, ← h2, e]
  · have h1 := gp_step S [] [x] r
    have h2 := gp_step S [] [x] s
    have eo : over S [] [x] = S := by
      funext i
      unfold over
      rw [if_neg (by simp)]
      by_cases hi : i ∈ [x]
      · rw [if_pos hi, List.mem_singleton.mp hi]
        simpa using hx
      · rw [if_neg hi]
    rw [eo] at h1 h2
    rw [← h1, ← h2, e2]
theorem over_on (S : Int → Bool) (On Off : List Int) (x : Int) (h : x ∉ Off) (h' : x ∉ On) : over (over S [x] []) On Off = over S (On ++ [x]) Off := by
  funext i
  unfold over
  by_cases e : i = x
  · subst e
    simp [h, h']
  · simp [e]
theorem over_off (S : Int → Bool) (On Off : List Int) (x : Int) (h : x ∉ Off) (h' : x ∉ On) : over (over S [] [x]) On Off = over S On (Off ++ [x]) := by
  funext i
  unfold over
  by_cases e : i = x
  · subst e
    simp [h, h']
  · simp [e]
theorem set_of_none {r : Rs} (h : FineR r) (e : ∀ x, x ∉ heldR r) : ∃ b, r = .set b := by
  cases r with
  | set b => exact ⟨b, rfl⟩
  | un t => exact absurd (least_mem t h.ok) (e _)
/-- data: two told rests -/
theorem gp_lot (On Off : List Int) (t : Tr) : t.go On = gp (over (fun _ => false) On Off) t := by
  rw [go_gp]
  congr 1
  funext i
  unfold over
  by_cases h : i ∈ On
  · simp [h]
  · simp [h]
end Own

namespace Own
open PySem PySem.Spec PyProof.Rows L2
theorem walk_zipT {K : PySem.W.Frag} {a b : Addr} {xs ys : List V} {n : Nat} (hn : n = min xs.length ys.length) : Walk (RZ.ItzT K a b) n (fun H => SqT K H a xs ∧ SqT K H b ys) (YPair (fun i => xs[i]?) (fun i => ys[i]?)) := by
  subst hn
  refine ⟨fun i _ hi q => ?_, fun _ q => ⟨xs, ys, q.1, q.2, by omega⟩, fun i H v H' _ q y => ?_⟩
  · have h1 : i < xs.length := by omega
    have h2 : i < ys.length := by omega
    exact ⟨xs, ys, xs[i], ys[i], q.1, q.2, by simp [h1], by simp [h2]⟩
  · obtain ⟨T, x, z, h1, h2, h3, h4, h5⟩ := y
    exact ⟨T, x, z, h1, h2, h3, h4 xs q.1, h5 ys q.2⟩
/-! ### a thing put where a way leads: what is held -/
theorem set_split : ∀ {ps : List Tr} {i : Nat} {p : Tr} (q : Tr), ps[i]? = some p → ∃ A B, Tr.helds ps = A ++ p.held ++ B ∧ Tr.helds (ps.set i q) = A ++ q.held ++ B
  | [], _, _, _, h => by simp at h
  | r :: ps, 0, p, q, h => by
    simp at h
    subst h
    exact ⟨[], Tr.helds ps, by rw [Tr.helds]; rfl, by rw [List.set_cons_zero, Tr.helds]; rfl⟩
  | r :: ps, i + 1, p, q, h => by
    obtain ⟨A, B, h1, h2⟩ := set_split (ps := ps) (i := i) (p := p) q (by simpa using h)
    exact ⟨r.held ++ A, B, by rw [Tr.helds, h1]; simp [List.append_assoc], by rw [List.set_cons_succ, Tr.helds, h2]; simp [List.append_assoc]⟩
theorem put_split {u s : Tr} : ∀ {w : List Int} {t : Tr}, toward t w = some s → ∃ A B, t.held = A ++ s.held ++ B ∧ (putAt t w u).held = A ++ u.held ++ B
  | [], t, h => by
    rw [toward_nil] at h
    cases h
    exact ⟨[], [], by simp, by rw [putAt_nil]; simp⟩
  | i :: w, .b _, h => by
    rw [toward] at h
    cases h
  | i :: w, .t k ps, h => by
    obtain ⟨h0, p, hp, hr⟩ := toward_cons h
    obtain ⟨A, B, h1, h2⟩ := put_split (u := u) hr
    obtain ⟨C, D, h3, h4⟩ := set_split (putAt p w u) hp
    refine ⟨C ++ A, B ++ D, ?_, ?_⟩
    · rw [Tr.held, h3, h1]
      simp [List.append_assoc]
    · rw [putAt_cons hp, Tr.held, h4, h2]
      simp [List.append_assoc]
theorem put_perm {u s t : Tr} {w : List Int} (h : toward t w = some s) (hu : u.held.Perm s.held) : (putAt t w u).held.Perm t.held := by
  obtain ⟨A, B, h1, h2⟩ := put_split (u := u) h
  rw [h1, h2]
  exact (List.Perm.append_left A hu).append_right B
/-- no deeper, as sound -/
theorem put_ok {u s : Tr} (hu : u.ok) (hd : u.deep ≤ s.deep) : ∀ {w : List Int} {t : Tr}, t.ok → toward t w = some s → (putAt t w u).ok ∧ (putAt t w u).deep ≤ t.deep
  | [], t, _, e => by
    rw [toward_nil] at e
    cases e
    rw [putAt_nil]
    exact ⟨hu, hd⟩
  | i :: w, .b _, _, e => by
    rw [toward] at e
    cases e
  | i :: w, .t k ps, o, e => by
    obtain ⟨h0, p, hp, hr⟩ := toward_cons e
    rw [Tr.ok] at o
    have hm := List.mem_of_getElem? hp
    obtain ⟨i1, i2⟩ := put_ok hu hd (t := p) (oks_all.mp o.2.2 p hm) hr
    rw [putAt_cons hp]
    have hdp := deep_get hp
    refine ⟨?_, ?_⟩
    · rw [Tr.ok, List.length_set]
      refine ⟨o.1, o.2.1, oks_all.mpr fun q hq => ?_⟩
      rcases List.mem_or_eq_of_mem_set hq with z | z
      · exact oks_all.mp o.2.2 q z
      · rw [z]; exact i1
    · rw [Tr.deep, Tr.deep]
      have : Tr.deeps (ps.set i.toNat (putAt p w u)) ≤ Tr.deeps ps := deeps_le.mpr fun q hq => by
        rcases List.mem_or_eq_of_mem_set hq with z | z
        · exact (deeps_le (n := Tr.deeps ps)).mp (Nat.le_refl _) q z
        · rw [z]
          omega
      omega
theorem toward_put {i f : Int} {u : Tr} : ∀ {w w2 : List Int} {t : Tr}, toward t w = some (.b i) → toward t w2 = some (.b f) → w ≠ w2 → toward (putAt t w u) w2 = some (.b f)
  | [], w2, t, h, h2, ne => by
    rw [toward_nil] at h
    cases h
    cases w2 with
    | nil => exact absurd rfl ne
    | cons a w2 =>
      rw [toward] at h2
      cases h2
  | a :: w, w2, .b _, h, _, _ => by
    rw [toward] at h
    cases h
  | a :: w, [], .t k ps, _, h2, _ => by
    rw [toward_nil] at h2
    cases h2
  | a :: w, c :: w2, .t k ps, h, h2, ne => by
    obtain ⟨a0, p, hp, hr⟩ := toward_cons h
    obtain ⟨c0, q, hq, hr2⟩ := toward_cons h2
    rw [putAt_cons hp]
    by_cases e : a = c
    · subst e
      rw [hp] at hq
      cases hq
      have hlt := (List.getElem?_eq_some_iff.mp hp).1
      rw [toward_mk a0 (p := putAt p w u) (by rw [List.getElem?_set, if_pos rfl, if_pos hlt])]
      exact toward_put hr hr2 fun z => ne (by rw [z])
    · rw [toward_mk c0 (p := q) (by rw [List.getElem?_set, if_neg (by omega)]; exact hq)]
      exact hr2
mutual
theorem held_subs : ∀ (t : Tr) (x : Int), x ∈ t.held → Tr.b x ∈ subs t
  | .b i, x, h => by
    rw [Tr.held, List.mem_singleton] at h
    rw [h, subs]
    exact List.mem_singleton.mpr rfl
  | .t k ps, x, h => by
    rw [Tr.held] at h
    rw [subs]
    exact List.mem_cons_of_mem _ (helds_subss ps x h)
theorem helds_subss : ∀ (ps : List Tr) (x : Int), x ∈ Tr.helds ps → Tr.b x ∈ subss ps
  | [], x, h => by rw [Tr.helds] at h; cases h
  | p :: r, x, h => by
    rw [Tr.helds] at h
    rw [subss]
    rcases List.mem_append.mp h with z | z
    · exact List.mem_append_left _ (held_subs p x z)
    · exact List.mem_append_right _ (helds_subss r x z)
end
/-- one of the buttons another one, or two exchanged, or all as they were -/
structure Close (t u : Tr) : Prop where
  ok : u.ok
  deep : u.deep ≤ t.deep
  nodup : u.held.Nodup
  few : u.held.length = t.held.length
  sub : ∀ x ∈ u.held, x ∈ t.held ∨ x = 97
theorem Close.perm {t u : Tr} (n : t.held.Nodup) (o : u.ok) (d : u.deep ≤ t.deep) (p : u.held.Perm t.held) : Close t u := ⟨o, d, p.nodup_iff.mpr n, p.length_eq, fun x hx => .inl (p.mem_iff.mp hx)⟩
theorem ok_b (i : Int) : (Tr.b i).ok := by rw [Tr.ok]; trivial
theorem close_new {t : Tr} {w : List Int} {i f : Int} (n : t.held.Nodup) (o : t.ok) (h : toward t w = some (.b i)) (hf : f ∉ t.held ∨ f = i) (h97 : f ∈ t.held ∨ f = 97) : Close t (putAt t w (.b f)) := by
  obtain ⟨a, b⟩ := put_ok (u := .b f) (s := .b i) (ok_b f) (by rw [Tr.deep, Tr.deep]; exact Nat.le_refl _) o h
  obtain ⟨A, B, h1, h2⟩ := put_split (u := .b f) h
  rw [Tr.held] at h1 h2
  refine ⟨a, b, ?_, by rw [h1, h2]; simp, fun x hx => ?_⟩
  · rcases hf with hf | hf
    · rw [h1] at n hf
      rw [h2]
      have p1 : (A ++ [f] ++ B).Perm (f :: (A ++ B)) := by
        rw [List.append_assoc]
        exact List.perm_middle
      have p2 : (A ++ [i] ++ B).Perm (i :: (A ++ B)) := by
        rw [List.append_assoc]
        exact List.perm_middle
      rw [p1.nodup_iff, List.nodup_cons]
      rw [p2.nodup_iff, List.nodup_cons] at n
      refine ⟨fun q => hf (p2.mem_iff.mpr (List.mem_cons_of_mem _ q)), n.2⟩
    · rw [h2, hf, ← h1]
      exact n
  · rw [h2] at hx
    rw [h1]
    simp only [List.mem_append, List.mem_singleton] at hx ⊢
    rcases hx with (q | q) | q
    · exact .inl (.inl (.inl q))
    · subst q
      rcases h97 with z | z
      · rw [h1] at z
        simp only [List.mem_append, List.mem_singleton] at z
        exact .inl z
      · exact .inr z
    · exact .inl (.inr q)
theorem close_swap {t : Tr} {w w2 : List Int} {i f : Int} (n : t.held.Nodup) (o : t.ok) (h : toward t w = some (.b i)) (h2 : toward t w2 = some (.b f)) (ne : w ≠ w2) : Close t (putAt (putAt t w (.b f)) w2 (.b i)) := by
  obtain ⟨a, b⟩ := put_ok (u := .b f) (s := .b i) (ok_b f) (by rw [Tr.deep, Tr.deep]; exact Nat.le_refl _) o h
  have h3 := toward_put (u := .b f) h h2 ne
  obtain ⟨a', b'⟩ := put_ok (u := .b i) (s := .b f) (ok_b i) (by rw [Tr.deep, Tr.deep]; exact Nat.le_refl _) a h3
  obtain ⟨A, B, e1, e2⟩ := put_split (u := .b f) h
  obtain ⟨C, D, e3, e4⟩ := put_split (u := .b i) h3
  rw [Tr.held] at e1 e2 e3 e4
  refine .perm n a' (Nat.le_trans b' b) ?_
  have pm : ∀ (X Y : List Int) (z : Int), (X ++ [z] ++ Y).Perm (z :: (X ++ Y)) := fun X Y z => by
    rw [List.append_assoc]
    exact List.perm_middle
  have q : (f :: (A ++ B)).Perm (f :: (C ++ D)) := (pm A B f).symm.trans (by rw [← e2, e3]; exact pm C D f)
  rw [e4, e1]
  exact (pm C D i).trans (((List.perm_cons f).mp q).symm.cons i |>.trans (pm A B i).symm)
/-- a row with one part taken out and one set -/
theorem erase_helds : ∀ {ps : List Tr} {i : Nat} {p : Tr}, ps[i]? = some p → (Tr.helds ps).Perm (p.held ++ Tr.helds (ps.eraseIdx i))
  | [], _, _, h => by simp at h
  | r :: ps, 0, p, h => by
    simp at h
    subst h
    rw [List.eraseIdx_cons_zero, Tr.helds]
  | r :: ps, i + 1, p, h => by
    have ih := erase_helds (ps := ps) (i := i) (p := p) (by simpa using h)
    rw [List.eraseIdx_cons_succ, Tr.helds, Tr.helds]
    refine (List.Perm.append_left _ ih).trans ?_
    rw [← List.append_assoc, ← List.append_assoc]
    exact List.perm_append_comm.append_right _
theorem moved_helds {ps : List Tr} {g a : Nat} {k z : Int} {us : List Tr} (hg : ps[g]? = some (.t k us)) (ha : ps[a]? = some (.b z)) (ne : a ≠ g) : (Tr.helds ((ps.set g (.t k (us ++ [.b z]))).eraseIdx a)).Perm (Tr.helds ps) := by
  obtain ⟨A, B, h1, h2⟩ := set_split (.t k (us ++ [.b z])) hg
  have ha' : (ps.set g (.t k (us ++ [.b z])))[a]? = some (.b z) := by rw [List.getElem?_set, if_neg (Ne.symm ne)]; exact ha
  have h3 := erase_helds ha'
  rw [Tr.held] at h1 h2
  rw [Tr.held] at h3
  have e : Tr.helds (us ++ [.b z]) = Tr.helds us ++ [z] := by rw [helds_snoc, Tr.held]
  rw [e] at h2
  have p1 : (Tr.helds (ps.set g (.t k (us ++ [.b z])))).Perm (z :: Tr.helds ps) := by
    rw [h2, h1]
    have : A ++ (Tr.helds us ++ [z]) ++ B = (A ++ Tr.helds us) ++ z :: B := by simp [List.append_assoc]
    rw [this]
    exact List.perm_middle
  exact (List.perm_cons z).mp (h3.symm.trans p1)
end Own

namespace Own
open PySem PySem.Spec PyProof.Rows L2
/-! ### the repr of a tree tells the tree -/
def NoDig (r : List Nat) : Prop := ∀ c ∈ r.head?, c < 48 ∨ 57 < c
theorem dig_split : ∀ {A B r s : List Nat}, (∀ c ∈ A, 48 ≤ c ∧ c ≤ 57) → (∀ c ∈ B, 48 ≤ c ∧ c ≤ 57) → NoDig r → NoDig s → A ++ r = B ++ s → A = B ∧ r = s
  | [], [], _, _, _, _, _, _, h => ⟨rfl, h⟩
  | [], b :: B, r, s, _, hB, hr, _, h => by
    rw [List.nil_append] at h
    subst h
    have h1 := hr b rfl
    have h2 := hB b List.mem_cons_self
    omega
  | a :: A, [], r, s, hA, _, _, hs, h => by
    rw [List.nil_append] at h
    subst h
    have h1 := hs a rfl
    have h2 := hA a List.mem_cons_self
    omega
  | a :: A, b :: B, r, s, hA, hB, hr, hs, h => by
    rw [List.cons_append, List.cons_append, List.cons.injEq] at h
    obtain ⟨rfl, h⟩ := h
    obtain ⟨h1, h2⟩ := dig_split (fun c hc => hA c (List.mem_cons_of_mem _ hc)) (fun c hc => hB c (List.mem_cons_of_mem _ hc)) hr hs h
    exact ⟨by rw [h1], h2⟩
theorem num_split {m n : Nat} {r s : List Nat} (hr : NoDig r) (hs : NoDig s) (h : TL.numL m ++ r = TL.numL n ++ s) : m = n ∧ r = s := by
  obtain ⟨h1, h2⟩ := dig_split (fun c hc => TL.numL_digits m c hc) (fun c hc => TL.numL_digits n c hc) hr hs h
  exact ⟨TL.numL_inj h1, h2⟩
mutual
def cod : Tr → List Nat
  | .b i => TL.numL i.toNat
  | .t k ps => 40 :: (TL.numL k.toNat ++ (44 :: 32 :: 40 :: (cods ps ++ [41])))
def cods : List Tr → List Nat
  | [] => [41]
  | [p] => cod p ++ [44, 41]
  | p :: q :: r => cod p ++ codr (q :: r)
def codr : List Tr → List Nat
  | [] => [41]
  | p :: r => 44 :: 32 :: (cod p ++ codr r)
end
/-- buttons and bounds are no negative numbers -/
def Pos (t : Tr) : Prop := t.ok ∧ ∀ x ∈ t.held, 0 ≤ x
theorem nd_cons {c : Nat} {r : List Nat} (h : c < 48 ∨ 57 < c) : NoDig (c :: r) := fun d hd => by
  simp at hd
  subst hd
  exact h
theorem codr_nd (ps : List Tr) (r : List Nat) : NoDig (codr ps ++ r) := by
  cases ps with
  | nil => rw [codr]; exact nd_cons (by omega)
  | cons p ps => rw [codr]; exact nd_cons (by omega)
theorem num_ne (n : Nat) (r s : List Nat) : TL.numL n ++ r ≠ 40 :: s := fun h => by
  have hd := TL.numL_digits n
  cases e : TL.numL n with
  | nil => exact TL.numL_ne n e
  | cons c l =>
    rw [e] at h hd
    rw [List.cons_append, List.cons.injEq] at h
    have := hd c List.mem_cons_self
    omega
mutual
theorem cod_inj : ∀ (t u : Tr) (r s : List Nat), t.ok → u.ok → (∀ x ∈ t.held, 0 ≤ x) → (∀ x ∈ u.held, 0 ≤ x) → NoDig r → NoDig s → cod t ++ r = cod u ++ s → t = u ∧ r = s
  | .b i, .b j, r, s, _, _, hi, hj, hr, hs, h => by
    rw [cod, cod] at h
    obtain ⟨h1, h2⟩ := num_split hr hs h
    have a := hi i (by rw [Tr.held]; exact List.mem_singleton.mpr rfl)
    have b := hj j (by rw [Tr.held]; exact List.mem_singleton.mpr rfl)
    exact ⟨by rw [show i = j by omega], h2⟩
  | .b i, .t k ps, r, s, _, _, _, _, _, _, h => by
    rw [cod, cod, List.cons_append] at h
    exact absurd h (num_ne _ _ _)
  | .t k ps, .b j, r, s, _, _, _, _, _, _, h => by
    rw [cod, cod, List.cons_append] at h
    exact absurd h.symm (num_ne _ _ _)
  | .t k ps, .t l qs, r, s, ot, ou, ht, hu, hr, hs, h => by
    rw [Tr.ok] at ot ou
    rw [Tr.held] at ht hu
    rw [cod, cod, List.cons_append, List.cons_append, List.cons.injEq, List.append_assoc, List.append_assoc] at h
    obtain ⟨h1, h2⟩ := num_split (nd_cons (by omega)) (nd_cons (by omega)) h.2
    have kl : k = l := by omega
    have h2 : cods ps ++ (41 :: r) = cods qs ++ (41 :: s) := by
      have h2' := h2
      simp only [List.append_eq, List.cons_append, List.nil_append, List.append_assoc, List.cons.injEq, true_and] at h2'
      exact h2'
    match ps, qs, ot, ou, ht, hu, h2 with
    | [], _, ot, _, _, _, _ => exact absurd ot.2.1 (by simp; omega)
    | _ :: _, [], _, ou, _, _, _ => exact absurd ou.2.1 (by simp; omega)
    | [p], [q], ot, ou, ht, hu, h2 =>
      rw [Tr.oks] at ot ou
      rw [Tr.helds] at ht hu
      rw [cods, cods, List.append_assoc, List.append_assoc] at h2
      obtain ⟨e1, e2⟩ := cod_inj p q _ _ ot.2.2.1 ou.2.2.1 (fun x hx => ht x (List.mem_append_left _ hx)) (fun x hx => hu x (List.mem_append_left _ hx)) (nd_cons (c := 44) (by omega)) (nd_cons (c := 44) (by omega)) h2
      simp at e2
      exact ⟨by rw [kl, e1], e2⟩
    | [p], q :: q2 :: qs, ot, ou, ht, hu, h2 =>
      rw [Tr.oks] at ot ou
      rw [Tr.helds] at ht hu
      rw [cods, cods, List.append_assoc, List.append_assoc] at h2
      obtain ⟨e1, e2⟩ := cod_inj p q _ _ ot.2.2.1 ou.2.2.1 (fun x hx => ht x (List.mem_append_left _ hx)) (fun x hx => hu x (List.mem_append_left _ hx)) (nd_cons (c := 44) (by omega)) (codr_nd _ _) h2
      rw [codr] at e2
      simp at e2
    | p :: p2 :: ps, [q], ot, ou, ht, hu, h2 =>
      rw [Tr.oks] at ot ou
      rw [Tr.helds] at ht hu
      rw [cods, cods, List.append_assoc, List.append_assoc] at h2
      obtain ⟨e1, e2⟩ := cod_inj p q _ _ ot.2.2.1 ou.2.2.1 (fun x hx => ht x (List.mem_append_left _ hx)) (fun x hx => hu x (List.mem_append_left _ hx)) (codr_nd _ _) (nd_cons (c := 44) (by omega)) h2
      rw [codr] at e2
      simp at e2
    | p :: p2 :: ps, q :: q2 :: qs, ot, ou, ht, hu, h2 =>
      rw [Tr.oks] at ot ou
      rw [Tr.helds] at ht hu
      rw [cods, cods, List.append_assoc, List.append_assoc] at h2
      obtain ⟨e1, e2⟩ := cod_inj p q _ _ ot.2.2.1 ou.2.2.1 (fun x hx => ht x (List.mem_append_left _ hx)) (fun x hx => hu x (List.mem_append_left _ hx)) (codr_nd _ _) (codr_nd _ _) h2
      obtain ⟨e3, e4⟩ := codr_inj (p2 :: ps) (q2 :: qs) _ _ ot.2.2.2 ou.2.2.2 (fun x hx => ht x (List.mem_append_right _ hx)) (fun x hx => hu x (List.mem_append_right _ hx)) e2
      simp only [List.cons_append, List.nil_append, List.cons.injEq, true_and] at e4
      exact ⟨by rw [kl, e1, e3], e4⟩
theorem codr_inj : ∀ (ps qs : List Tr) (r s : List Nat), Tr.oks ps → Tr.oks qs → (∀ x ∈ Tr.helds ps, 0 ≤ x) → (∀ x ∈ Tr.helds qs, 0 ≤ x) → codr ps ++ r = codr qs ++ s → ps = qs ∧ r = s
  | [], [], r, s, _, _, _, _, h => by
    rw [codr] at h
    simp only [List.cons_append, List.nil_append, List.cons.injEq, true_and] at h
    exact ⟨rfl, h⟩
  | [], q :: qs, r, s, _, _, _, _, h => by
    rw [codr, codr] at h
    simp only [List.cons_append, List.nil_append, List.cons.injEq] at h
    exact absurd h.1 (by omega)
  | p :: ps, [], r, s, _, _, _, _, h => by
    rw [codr, codr] at h
    simp only [List.cons_append, List.nil_append, List.cons.injEq] at h
    exact absurd h.1 (by omega)
  | p :: ps, q :: qs, r, s, op, oq, hp, hq, h => by
    rw [Tr.oks] at op oq
    rw [Tr.helds] at hp hq
    rw [codr, codr] at h
    simp only [List.cons_append, List.cons.injEq, true_and, List.append_assoc] at h
    obtain ⟨e1, e2⟩ := cod_inj p q _ _ op.1 oq.1 (fun x hx => hp x (List.mem_append_left _ hx)) (fun x hx => hq x (List.mem_append_left _ hx)) (codr_nd ps r) (codr_nd qs s) h
    obtain ⟨e3, e4⟩ := codr_inj ps qs r s op.2 oq.2 (fun x hx => hp x (List.mem_append_right _ hx)) (fun x hx => hq x (List.mem_append_right _ hx)) e2
    exact ⟨by rw [e1, e3], e4⟩
end
theorem shown_int {i : Int} (h : 0 ≤ i) : TL.tl (PyData.shown (.int i)) = TL.numL i.toNat := by
  obtain ⟨n, rfl⟩ : ∃ n : Nat, i = n := ⟨i.toNat, by omega⟩
  rw [PyData.shown]
  exact TL.tl_num n
theorem tl_tuple (ts : List Str) : TL.tl (tupleText ts) = 40 :: (TL.joinL [44, 32] (ts.map TL.tl) ++ (if ts.length == 1 then [44, 41] else [41])) := by
  unfold tupleText
  rw [TL.tl_append, TL.tl_append, TL.tl_join]
  have e1 : TL.tl ("(" : Str) = [40] := rfl
  have e2 : TL.tl (", " : Str) = [44, 32] := rfl
  rw [e1, e2]
  cases ts.length == 1 <;> rfl
theorem joinL_cons (x : List Nat) : ∀ r : List (List Nat), TL.joinL [44, 32] (x :: r) = x ++ r.flatMap fun y => 44 :: 32 :: y
  | [] => by simp [TL.joinL]
  | y :: r => by
    rw [TL.joinL, joinL_cons y r, List.flatMap_cons]
    · simp
mutual
theorem tl_tr : ∀ t : Tr, t.ok → (∀ x ∈ t.held, 0 ≤ x) → TL.tl t.d.shown = cod t
  | .b i, _, h => by
    rw [Tr.d, cod]
    exact shown_int (h i (by rw [Tr.held]; exact List.mem_singleton.mpr rfl))
  | .t k ps, o, h => by
    rw [Tr.ok] at o
    rw [Tr.held] at h
    rw [Tr.d, PyData.shown, PyData.shownAll, PyData.shownAll, PyData.shownAll, tl_tuple]
    have hk := shown_int (i := k) (by omega)
    have hp : TL.tl (PyData.shown (.tuple (Tr.ds ps))) = 40 :: cods ps := by
      rw [PyData.shown, tl_tuple, tl_trs ps o.2.2 h]
      match ps, o with
      | [], o => exact absurd o.2.1 (by simp; omega)
      | [p], _ =>
        rw [cods, Tr.ds, Tr.ds, PyData.shownAll, PyData.shownAll, List.map_cons, List.map_nil, joinL_cons]
        simp
      | p :: q :: r, _ =>
        rw [cods, List.map_cons, joinL_cons]
        have e : ((PyData.shownAll (Tr.ds (p :: q :: r))).length == 1) = false := by
          rw [Tr.ds, Tr.ds, PyData.shownAll, PyData.shownAll]
          simp
        rw [e, List.append_assoc, if_neg Bool.false_ne_true, codr_flat]
    simp only [List.map_cons, List.map_nil]
    rw [joinL_cons, hk, hp]
    simp [cod]
theorem tl_trs : ∀ ps : List Tr, Tr.oks ps → (∀ x ∈ Tr.helds ps, 0 ≤ x) → (PyData.shownAll (Tr.ds ps)).map TL.tl = ps.map cod
  | [], _, _ => by rw [Tr.ds, PyData.shownAll]; rfl
  | p :: r, o, h => by
    rw [Tr.oks] at o
    rw [Tr.helds] at h
    rw [Tr.ds, PyData.shownAll, List.map_cons, List.map_cons, tl_tr p o.1 fun x hx => h x (List.mem_append_left _ hx), tl_trs r o.2 fun x hx => h x (List.mem_append_right _ hx)]
theorem codr_flat : ∀ ps : List Tr, (ps.map cod).flatMap (fun y => 44 :: 32 :: y) ++ [41] = codr ps
  | [] => by rw [codr]; rfl
  | p :: r => by rw [codr, List.map_cons, List.flatMap_cons, ← codr_flat r]; simp
end
theorem shown_inj {t u : Tr} (ot : t.ok) (ou : u.ok) (ht : ∀ x ∈ t.held, 0 ≤ x) (hu : ∀ x ∈ u.held, 0 ≤ x) (h : t.d.shown = u.d.shown) : t = u := by
  have e := congrArg TL.tl h
  rw [tl_tr t ot ht, tl_tr u ou hu] at e
  exact (cod_inj t u [] [] ot ou ht hu (fun c hc => nomatch hc) (fun c hc => nomatch hc) (by rw [List.append_nil, List.append_nil]; exact e)).1
end Own

namespace Own
open PySem PySem.Spec PyProof.Rows L2
/-! ### the set of a list of ints -/
/-- the set that set() lays down ahead of its items -/
abbrev bareSet (w : World) : Obj :=
  { cls := .type "set"
    dict := none
    data := .set #[] 0 (.fresh 0 0 (!w.params.followText "set-order")) }
theorem bare_get (w : World) (h : Heap) : (h.push (bareSet w)).get? h.objs.size = some (bareSet w) :=
  Heap.get?_push_size _ rfl
theorem ints_nth {us : Array Value} {ns : List Int} (hi : IntsAre us.toList ns) (i : Nat) (v : Value) (hv : us[i]? = some v) :
    ∃ k t, ns[i]? = some k ∧ v = .int k t := by
  obtain ⟨t, e⟩ := PyProof.Rows.IntsAre.int_at hi i v ((Array.getElem?_toList ..).trans hv)
  have hl := IntsAre.length hi
  rw [Array.length_toList] at hl
  have hi2 : i < ns.length := hl ▸ (Array.getElem?_eq_some_iff.mp hv).1
  exact ⟨ns[i], t, List.getElem?_eq_getElem hi2, by rw [e, List.getD_eq_getElem?_getD, List.getElem?_eq_getElem hi2]; rfl⟩
set_option maxHeartbeats 8000000 in
theorem set_of_ints {P : Program} {w : World} {A : Around} {E : Value → Shared → Prop} {s : Shared} {d : Addr} {us : Array Value} (ns : List Int)
    {Q : Value → Shared → Prop} (ha : A.handled = none) (hd : s.heap.IsList d us) (hi : IntsAre us.toList ns) (hn : ns.length + 1 < scanBound)
    (hq : ∀ (g : Heap) (m c : Nat), SetR w g s.heap.objs.size (fun j => decide (j ∈ ns)) c → c ≤ ns.length →
      (∀ b o, s.heap.get? b = some o → g.get? b = some o) → Q (.ref s.heap.objs.size) { s with heap := g, toks := m }) :
    wpAny (model P w) A (call (.type "set") [.ref d]) Q E s := by
  have hlen : us.size = ns.length := by
    rw [← Array.length_toList]
    exact IntsAre.length hi
  obtain ⟨_, _, mro⟩ := F.called_set.mro
  have made := F.called_set.made
  have subs := F.called_set.sub
  refine wpAny_call (codeAny_of_tree (show wpAny _ _ (callAny (.type "set") _) _ _ _ from ?_))
  refine wpAny_pure ⟨Code.quiet_builtin _ (by decide +kernel), ?_⟩
  refine codeAny_builtin F.entry_type_call ?_
  rw [Around.under_plain (weight_type_call_type "set" [.ref d] []) rfl]
  have notT := F.called_set.notType
  have canC := F.called_set.canCreate
  have typC := F.typeCall_set_1 (.ref d)
  repeat any_goals first | assumption | wp_step
  let s1 : Shared := { s with heap := s.heap.push (bareSet w) }
  refine codeAny_mono (code_set_led1 (.ref d) (E := E) (Q₁ := fun v t => v = .ref s.heap.objs.size ∧ t = s1) ⟨rfl, rfl⟩) ?_
  intro r t hr
  match r, hr with
  | .error e, hr => exact hr
  | .ok (.ret v), hr =>
    obtain ⟨rfl, rfl⟩ := hr
    have isS : Shared.TypeIs s1 (.ref s.heap.objs.size) "set" := ⟨_, bare_get w s.heap, rfl⟩
    have look := F.called_set.init.lookup
    have bind := F.called_set.init.bind (.ref s.heap.objs.size)
    repeat any_goals first | assumption | wp_step
    refine codeAny_mono (codeAny_call_builtin (R := wants (fun v t => v = .none ∧ ∃ g m c, t = { s with heap := g, toks := m } ∧
      SetR w g s.heap.objs.size (fun j => decide (j ∈ ns)) c ∧ c ≤ ns.length ∧ ∀ b o, s.heap.get? b = some o → g.get? b = some o) E)
      F.called_set.init.plain F.entry_set_init (check_set_init_1 isS ?_)) ?_
    · have hlist := hd.push (bareSet w)
      obtain ⟨⟨oc, od, ot, os⟩, got, cl, nl, dat⟩ := hd
      simp only at cl dat
      subst cl dat
      have got1 := Heap.get?_push_of_some (bareSet w) got
      have noSet := F.sub_list_set
      have noFz := F.sub_list_frozenset
      have noD : (Value.type "list" == Value.type "dict") = false := rfl
      unfold Builtin.«set.__init__» noKeywords Builtin.Frozenset.updateFrom
      generalize eIter : pyIter = it
      wp_walk
      subst eIter
      refine wpAny_pyIter_list hlist ?_
      refine wpAny_bind (wpAny_runValue ?_)
      have old : d < s.heap.objs.size := Heap.lt_size got
      have new1 : (s.heap.push (bareSet w)).objs.size = s.heap.objs.size + 1 := Heap.size_push ..
      have calm : A.in1.in1.in1.handled = none := by simp [ha]
      have apart : d ≠ (s.heap.push (bareSet w)).objs.size := by
        rw [new1]
        exact Nat.ne_of_lt (Nat.lt_succ_of_lt old)
      refine set_update_ints (Walks.list calm _ d apart us).toS s.heap.objs.size ?_ ns hlen hn (ints_nth hi) (us.size - 0) 0 _ (by omega) (Nat.zero_le _) ?_ ?_ ?_
      · intro z
        rcases List.mem_cons.mp z with z | z
        · rw [new1] at z
          exact Nat.ne_of_lt (Nat.lt_succ_self _) z
        · exact Nat.ne_of_gt old (List.mem_singleton.mp z)
      · exact ⟨⟨_, Heap.get?_push_size _ rfl, rfl, rfl⟩, hlist.push _⟩
      · exact ⟨0, Nat.le_refl 0, setR_new_at (Heap.get?_push_of_some _ (bare_get w s.heap))⟩
      · intro t c hm hc hS
        obtain ⟨g, gs, dr, m, osx⟩ := t
        have e1 : gs = s.gens := hm.gens
        have e2 : dr = s.drawn := hm.drawn
        have e3 : osx = s.os := hm.os
        subst e1 e2 e3
        refine wpAny_pure (show wpAny _ _ (ret Value.none) _ _ _ from ?_)
        refine wpAny_pure ⟨rfl, g, m, c, rfl, hS, hlen ▸ hc, fun b o e => ?_⟩
        have hb := Heap.lt_size e
        refine hm.heap b o (fun z => ?_) (Heap.get?_push_of_some _ (Heap.get?_push_of_some _ e))
        rcases List.mem_cons.mp z with z | z
        · exact Nat.ne_of_lt hb z
        · have z := List.mem_singleton.mp z
          rw [new1] at z
          exact Nat.ne_of_lt (Nat.lt_succ_of_lt hb) z
    · intro r2 t2 hr2
      match r2, hr2 with
      | .error e, hr2 => exact hr2
      | .ok (.ret v), hr2 =>
        obtain ⟨rfl, g, m, c, rfl, hS, hc, hk⟩ := hr2
        repeat any_goals first | assumption | wp_step
        exact hq _ _ _ hS hc hk
def rSetLstI (K : PySem.W.Frag) (w : World) : List V → Hp → VK → Prop := fun xs H Q => ∃ (p : Addr) (ns : List Int), xs = [V.ref p] ∧ SqL K H p (ns.map V.int) ∧ ns.length ≤ 1000 ∧
  ∀ (a : Addr) (c : Nat), H a = none → c ≤ ns.length → Q (.ref a) (upd H a (SetO w a (fun j => decide (j ∈ ns)) c))
theorem cr_setLstI {X : Cx} (hc : X.calm = true) : CallR X (.type "set") (rSetLstI X.K X.w) := by
  intro pins s σ H xs us Q I r h
  obtain ⟨p, ns, rfl, hs, hb, q⟩ := h
  rw [Vals.ref1 r]
  obtain ⟨its, rv, ht, hz⟩ := I.list hs
  have pl : s.heap.IsList p its.toArray := by
    obtain ⟨o, n, x1, x2, x3, x4⟩ := ht
    exact ⟨o, x1, x2, n, x4⟩
  refine set_of_ints ns (I.ok.hd hc) pl rv.ints (Nat.lt_of_le_of_lt (Nat.succ_le_succ hb) (by decide)) fun h' tk c R hcl keep => ?_
  have ho := I.hok.fresh (Nat.le_refl s.heap.objs.size)
  exact ⟨.ref _, upd H s.heap.objs.size (SetO X.w s.heap.objs.size (fun j => decide (j ∈ ns)) c), I.laid (t' := tk) keep (Nat.le_refl _) (setO_new R), rfl, q _ c ho hcl⟩
end Own

namespace Own
open PySem PySem.Spec PyProof.Rows L2
/-! ### isinstance of the error that a suite holds, whatever class it is of -/
def rIsS (K : PySem.W.Frag) (cls : Value) (d : Option Addr) (a : Addr) : List V → Hp → VK → Prop := fun xs H Q => ∃ D : Addr, cls = .ref D ∧ d = none ∧ ExcC K D ∧ rIsE K D a xs H Q
theorem call_isS {X : Cx} {a : Addr} {oe : Obj} {cls : Value} {d : Option Addr} {pn : List (Addr × Obj)} (hz : Zc cls d oe) (hf : ∃ vs, oe.data = .fields vs) : CallR (X.suite a ((a, oe) :: pn)) (.builtin "isinstance") (rIsS X.K cls d a) := by
  intro pins s σ H xs us Q I r h
  obtain ⟨D, e1, e2, C, h⟩ := h
  subst e1 e2
  exact call_isE C hz hf pins s σ H xs us Q I r h
theorem kit_self (K : PySem.W.Frag) (D : Addr) : PySem.W.kitOne K (.ref D) (.ref D) = some true := by
  unfold PySem.W.kitOne
  rw [if_pos (by simp)]
end Own

namespace Own
open PySem PySem.Spec PyProof.Rows L2
/-! ### comb; xs[i] += e -/
def rComb : List V → Hp → VK → Prop := fun vs H Q => ∃ a b : Int, vs = [.int a, .int b] ∧ 0 ≤ a ∧ 0 ≤ b ∧ a < 2 ^ 64 ∧ b ≤ 9000 ∧ Q (.int (PySem.W.mcComb a b)) H
theorem cr_comb {X : Cx} : CallR X (.builtin "math.comb") rComb := by
  intro pins s σ H vs us Q I r h
  obtain ⟨a, b, rfl, h1, h2, h3, h4, q⟩ := h
  obtain ⟨t, u, rfl⟩ := Vals.int2 r
  exact PySem.W.mc_comb h1 h2 h3 (.inl h4) fun _ => ⟨.int _, H, I.tok _, ⟨_, rfl⟩, q⟩
/-- an item of a list at a place that is not below 0 -/
def rGetL (K : PySem.W.Frag) : V → V → Hp → VK → Prop := fun x y H Q => ∃ (p : Addr) (xs : List V) (j : Nat) (v : V), x = .ref p ∧ y = .int (j : Int) ∧ SqL K H p xs ∧ xs[j]? = some v ∧ Q v H
theorem get_list {X : Cx} : PGet X (rGetL X.K) := by
  intro pins s σ H x y v u Q I rx ry h
  obtain ⟨p, xs, j, z, rfl, rfl, hq, he, q⟩ := h
  cases rx
  obtain ⟨t, rfl⟩ := ry
  obtain ⟨its, r, pl, hz⟩ := I.list hq
  obtain ⟨w, ew, rw'⟩ := r.get he
  have hj := (List.getElem?_eq_some_iff.mp he).1
  have hn := line63
  have hs : sizeLine = 16777216 := sizeLine_eq
  exact wpAny_getItem_list pl.isList (by omega) (by omega) (x := w) (by rw [Int.toNat_natCast]; simpa using ew) ⟨z, H, I, rw', q⟩
end Own

namespace Own
open PySem PySem.Spec PyProof.Rows L2
/-! ### the sum of a tuple of ints, of a list of them -/
section
variable {prog : Program} {w : World} {A : Around} {E : Value → Shared → Prop} {s : Shared} {l : Addr} {its : List Value} {ns : List Int} {Q : Value → Shared → Prop}
theorem sum_tup (hh : A.handled = none) (hl : s.heap.IsTuple l its.toArray) (hi : IntsAre its ns)
    (h : ∀ h' tk t', (∀ b o, s.heap.get? b = some o → h'.get? b = some o) → Q (.int ns.sum t') { s with heap := h', toks := tk }) : wpAny (model prog w) A (call (.builtin "sum") [.ref l]) Q E s := by
  obtain ⟨xs, e⟩ := hi.allInts.items
  have hn : numsOf (intItems xs).toList = ns := by rw [← e]; exact hi.numsOf
  rw [nums_intItems] at hn
  rw [e] at hl
  have hlt : l < s.heap.objs.size := by obtain ⟨_, e, _⟩ := hl; exact Heap.lt_size e
  refine PySem.call_sum_walkG (PySem.wpAny_pyIter_tuple hl ?_)
  have hI : (s.heap.push { cls := .type "tuple_iterator", data := .fields #[.ref l, .int 0 0] }).IsTupleIter s.heap.objs.size l 0 := ⟨_, Heap.get?_push_size _ rfl, rfl, rfl⟩
  refine ⟨_, _, _, _, _, _, numAt xs, rfl, Walks.tuple (A := A.in1) hh _ l (Nat.ne_of_lt hlt) (intItems xs), ⟨hI, hl.at fun o e => Heap.get?_push_of_some _ e⟩, ?_, (fun _ _ => intItems_at), fun h' tk t' hk => ?_⟩
  · intro b hb
    show b < (s.heap.push _).objs.size
    rw [Heap.size_push]
    rcases List.mem_cons.mp hb with rfl | hb
    · exact Nat.lt_succ_self _
    · rcases List.mem_cons.mp hb with rfl | hb
      · exact Nat.lt_succ_of_lt hlt
      · cases hb
  · have := h h' tk t' fun b o e => hk b o (fun hm => Nat.ne_of_lt (Heap.lt_size e) (List.mem_singleton.mp hm)) (Heap.get?_push_of_some _ e)
    have hs : preSum (numAt xs) (intItems xs).size = ns.sum := by
      rw [show (intItems xs).size = xs.size by simp [intItems], preSum_eq, List.take_of_length_le (by simp), hn]
    rw [hs]
    exact this
end
def rSumT (K : PySem.W.Frag) : List V → Hp → VK → Prop := fun vs H Q => ∃ (a : Addr) (ns : List Int), vs = [V.ref a] ∧ (SqT K H a (ns.map V.int) ∨ SqL K H a (ns.map V.int)) ∧ Q (.int ns.sum) H
theorem cr_sumT {X : Cx} (hc : X.calm = true) : CallR X (.builtin "sum") (rSumT X.K) := by
  intro pins s σ H vs us Q I r h
  obtain ⟨a, ns, rfl, hs | hs, q⟩ := h
  · obtain ⟨its, rv, hl, _⟩ := I.tuple hs
    rw [Vals.ref1 r]
    obtain ⟨o, x1, x2, n, x3⟩ := hl
    exact sum_tup (I.ok.hd hc) ⟨o, x1, x2, n, x3⟩ rv.ints fun h' tk t' hk => ⟨.int _, H, I.kept hk, ⟨_, rfl⟩, q⟩
  · exact cr_sum hc pins s σ H _ us Q I r ⟨a, ns, rfl, hs, q⟩
section
variable {prog : Program} {w : World} {A : Around} {E : Value → Shared → Prop} {s : Shared} {l : Addr} {its : List Value} {ns : List Int} {Q : Value → Shared → Prop}
theorem max_tup (hh : A.handled = none) (hl : s.heap.IsTuple l its.toArray) (hi : IntsAre its ns) (hne : 0 < ns.length)
    (h : ∀ h' tk M t', (∀ b o, s.heap.get? b = some o → h'.get? b = some o) → M ∈ ns → (∀ a, a ∈ ns → a ≤ M) → Q (.int M t') { s with heap := h', toks := tk }) : wpAny (model prog w) A (call (.builtin "max") [.ref l]) Q E s := by
  obtain ⟨xs, e⟩ := hi.allInts.items
  have hn : numsOf (intItems xs).toList = ns := by rw [← e]; exact hi.numsOf
  rw [nums_intItems] at hn
  subst hn
  rw [e] at hl
  have hsz : 0 < xs.size := by simpa using hne
  have hlt : l < s.heap.objs.size := by obtain ⟨_, e, _⟩ := hl; exact Heap.lt_size e
  refine PySem.call_max_walk (PySem.wpAny_pyIter_tuple hl ?_)
  have hI : (s.heap.push { cls := .type "tuple_iterator", data := .fields #[.ref l, .int 0 0] }).IsTupleIter s.heap.objs.size l 0 := ⟨_, Heap.get?_push_size _ rfl, rfl, rfl⟩
  refine ⟨_, _, _, _, _, _, _, rfl, Walks.tuple (A := A.in1) hh _ l (Nat.ne_of_lt hlt) (intItems xs), ⟨hI, hl.at fun o e => Heap.get?_push_of_some _ e⟩, ?_, by simpa [intItems] using hsz, CmpOf.ints_gt (numAt xs) (fun _ _ => intItems_at), fun v h' tk hP hk => ?_⟩
  · intro b hb
    show b < (s.heap.push _).objs.size
    rw [Heap.size_push]
    rcases List.mem_cons.mp hb with rfl | hb
    · exact Nat.lt_succ_self _
    · rcases List.mem_cons.mp hb with rfl | hb
      · exact Nat.lt_succ_of_lt hlt
      · cases hb
  · have hv : (intItems xs)[argBest (fun i j => decide (numAt xs i > numAt xs j)) (xs.size - 1)]? = some v := by simpa [intItems] using hP
    obtain ⟨t, rfl⟩ := intItems_at hv
    obtain ⟨h1, h2⟩ := argBest_gt (numAt xs) (xs.size - 1)
    refine h h' tk _ t (fun b o e => hk b o (fun hm => Nat.ne_of_lt (Heap.lt_size e) (List.mem_singleton.mp hm)) (Heap.get?_push_of_some _ e)) ?_ fun a ha => ?_
    · rw [numAt_eq]; exact PySem.getD_mem (by rw [List.length_map, Array.length_toList]; omega)
    · obtain ⟨j, hj, rfl⟩ := mem_getD ha
      rw [List.length_map, Array.length_toList] at hj
      rw [← numAt_eq]; exact h2 j (by omega)
end
def rMaxT (K : PySem.W.Frag) : List V → Hp → VK → Prop := fun vs H Q => ∃ (a : Addr) (ns : List Int), vs = [V.ref a] ∧ SqT K H a (ns.map V.int) ∧ 0 < ns.length ∧ ∀ m, m ∈ ns → (∀ y, y ∈ ns → y ≤ m) → Q (.int m) H
theorem cr_maxT {X : Cx} (hc : X.calm = true) : CallR X (.builtin "max") (rMaxT X.K) := by
  intro pins s σ H vs us Q I r h
  obtain ⟨a, ns, rfl, hs, hne, q⟩ := h
  obtain ⟨its, rv, hl, _⟩ := I.tuple hs
  rw [Vals.ref1 r]
  obtain ⟨o, x1, x2, n, x3⟩ := hl
  exact max_tup (I.ok.hd hc) ⟨o, x1, x2, n, x3⟩ rv.ints hne fun h' tk m t' hk h1 h2 => ⟨.int _, H, I.kept hk, ⟨_, rfl⟩, q m h1 h2⟩
end Own

namespace Own
open PySem PySem.Spec PyProof.Rows L2
/-! ### tables of numbers, so written that the kernel reckons them -/
abbrev Tb := List (List Nat)
/-- k x, x reckoned first -/
@[reducible] def fz {α : Type} (x : Nat) (k : Nat → α) : α := Nat.rec (motive := fun _ => α) (k 0) (fun n _ => k (n + 1)) x
theorem fz_eq {α : Type} (x : Nat) (k : Nat → α) : fz x k = k x := by cases x <;> rfl
def addTo : List Nat → Nat → Nat → List Nat
  | [], _, _ => []
  | y :: r, 0, x => fz (y + x) fun v => v :: r
  | y :: r, j + 1, x => y :: addTo r j x
def addAt : Tb → Nat → Nat → Nat → Tb
  | [], _, _, _ => []
  | y :: r, 0, j, x => addTo y j x :: r
  | y :: r, i + 1, j, x => y :: addAt r i j x
def fall (a : Nat) : Nat → Nat
  | 0 => 1
  | k + 1 => fall a k * (a - k)
def combN (a k : Nat) : Nat := if a < k then 0 else fall a (min k (a - k)) / fall (min k (a - k)) (min k (a - k))
def manyB (size kinds i j ways : Nat) : Nat → Tb → Tb
  | 0, F => F
  | m + 1, F => fz (ways * combN (kinds + m - 1) m) fun v => addAt (manyB size kinds i j ways m F) (i + m) (j + m * size) v
def rowB (n size kinds i : Nat) : Nat → List Nat → Tb → Tb
  | _, [], F => F
  | j, 0 :: r, F => rowB n size kinds i (j + 1) r F
  | j, (w + 1) :: r, F => rowB n size kinds i (j + 1) r (manyB size kinds i j (w + 1) ((n - j) / size + 1) F)
def tabB (n size kinds : Nat) : Nat → Tb → Tb → Tb
  | _, [], F => F
  | i, row :: r, F => tabB n size kinds (i + 1) r (rowB n size kinds i 0 row F)
def zerosT (n : Nat) : Tb := List.replicate (n + 1) (List.replicate (n + 1) 0)
def withB (n : Nat) (R : Tb) (size kinds : Nat) : Tb := tabB n size kinds 0 R (zerosT n)
def none0 (n : Nat) : Tb := addAt (zerosT n) 0 0 1
def nth : List Nat → Nat → Nat
  | [], _ => 0
  | x :: _, 0 => x
  | _ :: r, k + 1 => nth r k
def colSum : Tb → Nat → Nat
  | [], _ => 0
  | r :: R, k => nth r k + colSum R k
/-- the sum of (place - 2) times the number there, beyond place 2 -/
def someOf : List Nat → Nat → Nat
  | [], _ => 0
  | x :: r, i => (i - 2) * x + someOf r (i + 1)
def colAt (R : Tb) (k : Nat) : List Nat := R.map fun r => nth r k
theorem colSum_eq : ∀ (R : Tb) (k : Nat), colSum R k = (colAt R k).sum
  | [], _ => rfl
  | r :: R, k => by rw [colSum, colAt, List.map_cons, List.sum_cons, colSum_eq R k]; rfl
theorem rowB_snoc (n size kinds i : Nat) : ∀ (A : List Nat) (j w : Nat) (F : Tb), rowB n size kinds i j (A ++ [w]) F = if w = 0 then rowB n size kinds i j A F else manyB size kinds i (j + A.length) w ((n - (j + A.length)) / size + 1) (rowB n size kinds i j A F)
  | [], j, 0, F => by rw [List.nil_append, rowB, rowB, rowB]; rfl
  | [], j, w + 1, F => by rw [List.nil_append, rowB, rowB, rowB, if_neg (by omega)]; rfl
  | 0 :: A, j, w, F => by
    rw [List.cons_append, rowB, rowB_snoc n size kinds i A (j + 1) w F, rowB, List.length_cons, show j + 1 + A.length = j + (A.length + 1) by omega]
  | (v + 1) :: A, j, w, F => by
    rw [List.cons_append, rowB, rowB_snoc n size kinds i A (j + 1) w, rowB, List.length_cons, show j + 1 + A.length = j + (A.length + 1) by omega]
theorem tabB_snoc (n size kinds : Nat) : ∀ (A : Tb) (i : Nat) (r : List Nat) (F : Tb), tabB n size kinds i (A ++ [r]) F = rowB n size kinds (i + A.length) 0 r (tabB n size kinds i A F)
  | [], i, r, F => by rw [List.nil_append, tabB, tabB, tabB]; rfl
  | a :: A, i, r, F => by
    rw [List.cons_append, tabB, tabB_snoc n size kinds A (i + 1) r, tabB, List.length_cons, show i + 1 + A.length = i + (A.length + 1) by omega]
theorem addTo_len : ∀ (r : List Nat) (j x : Nat), (addTo r j x).length = r.length
  | [], _, _ => rfl
  | y :: r, 0, x => by rw [addTo, fz_eq]; rfl
  | y :: r, j + 1, x => by rw [addTo, List.length_cons, List.length_cons, addTo_len r j x]
theorem addAt_len : ∀ (F : Tb) (i j x : Nat), (addAt F i j x).length = F.length
  | [], _, _, _ => rfl
  | y :: r, 0, j, x => by rw [addAt]; rfl
  | y :: r, i + 1, j, x => by rw [addAt, List.length_cons, List.length_cons, addAt_len r i j x]
def nats (r : List Nat) : List V := r.map fun (x : Nat) => V.int (x : Int)
theorem nats_len (r : List Nat) : (nats r).length = r.length := List.length_map _
theorem nats_get {r : List Nat} {j : Nat} {v : V} (h : (nats r)[j]? = some v) : ∃ x : Nat, r[j]? = some x ∧ v = .int (x : Int) := by
  unfold nats at h
  rw [List.getElem?_map] at h
  cases e : r[j]? with
  | none => rw [e] at h; cases h
  | some x => rw [e] at h; exact ⟨x, rfl, (Option.some.inj h).symm⟩
theorem nats_at {r : List Nat} {j : Nat} {x : Nat} (h : r[j]? = some x) : (nats r)[j]? = some (.int (x : Int)) := by
  unfold nats
  rw [List.getElem?_map, h]
  rfl
theorem nats_set : ∀ {r : List Nat} {j x y : Nat}, r[j]? = some y → (nats r).set j (.int ((y : Int) + (x : Int))) = nats (addTo r j x)
  | [], _, _, _, h => by simp at h
  | z :: r, 0, x, y, h => by
    simp at h
    subst h
    rw [addTo, fz_eq]
    rfl
  | z :: r, j + 1, x, y, h => by
    have := nats_set (r := r) (j := j) (x := x) (y := y) (by simpa using h)
    rw [addTo]
    show V.int z :: (nats r).set j _ = V.int z :: nats (addTo r j x)
    rw [this]
theorem nth_get : ∀ {r : List Nat} {j x : Nat}, r[j]? = some x → nth r j = x
  | [], _, _, h => by simp at h
  | z :: r, 0, x, h => by simpa [nth] using h
  | z :: r, j + 1, x, h => by rw [nth]; exact nth_get (by simpa using h)
theorem nth_addTo : ∀ (r : List Nat) (j x k : Nat), k ≠ j → nth (addTo r j x) k = nth r k
  | [], _, _, _, _ => rfl
  | y :: r, 0, x, 0, h => absurd rfl h
  | y :: r, 0, x, k + 1, _ => by rw [addTo, fz_eq, nth, nth]
  | y :: r, j + 1, x, 0, _ => by rw [addTo, nth, nth]
  | y :: r, j + 1, x, k + 1, h => by rw [addTo, nth, nth]; exact nth_addTo r j x k (by omega)
def cell (R : Tb) (i j : Nat) : Nat := nth ((R[i]?).getD []) j
theorem cell_addAt : ∀ (F : Tb) (a b x i j : Nat), (i = a → j ≠ b) → cell (addAt F a b x) i j = cell F i j
  | [], _, _, _, _, _, _ => rfl
  | y :: r, 0, b, x, 0, j, h => by
    rw [addAt]
    show nth (addTo y b x) j = nth y j
    exact nth_addTo y b x j (h rfl)
  | y :: r, 0, b, x, i + 1, j, _ => by rw [addAt]; rfl
  | y :: r, a + 1, b, x, 0, j, _ => by rw [addAt]; rfl
  | y :: r, a + 1, b, x, i + 1, j, h => by
    rw [addAt]
    have := cell_addAt r a b x i j (fun e => h (by omega))
    unfold cell at this ⊢
    simpa using this
structure Shp (n : Nat) (F : Tb) : Prop where
  len : F.length = n + 1
  row : ∀ r ∈ F, r.length = n + 1
  tri : ∀ i j, j < i → cell F i j = 0
theorem mem_addAt : ∀ {F : Tb} {a b x : Nat} {r : List Nat}, r ∈ addAt F a b x → r ∈ F ∨ ∃ s ∈ F, r = addTo s b x
  | [], _, _, _, _, h => by rw [addAt] at h; cases h
  | y :: F, 0, b, x, r, h => by
    rw [addAt] at h
    rcases List.mem_cons.mp h with h | h
    · exact .inr ⟨y, List.mem_cons_self, h⟩
    · exact .inl (List.mem_cons_of_mem _ h)
  | y :: F, a + 1, b, x, r, h => by
    rw [addAt] at h
    rcases List.mem_cons.mp h with h | h
    · exact .inl (h ▸ List.mem_cons_self)
    · rcases mem_addAt h with h | ⟨s, hs, e⟩
      · exact .inl (List.mem_cons_of_mem _ h)
      · exact .inr ⟨s, List.mem_cons_of_mem _ hs, e⟩
theorem Shp.add {n : Nat} {F : Tb} (h : Shp n F) {a b : Nat} (x : Nat) (hab : a ≤ b) : Shp n (addAt F a b x) where
  len := by rw [addAt_len, h.len]
  row := fun r hr => by
    rcases mem_addAt hr with z | ⟨s, hs, rfl⟩
    · exact h.row r z
    · rw [addTo_len]
      exact h.row s hs
  tri := fun i j hij => by
    rw [cell_addAt F a b x i j (fun e => by omega)]
    exact h.tri i j hij
theorem Shp.zeros (n : Nat) : Shp n (zerosT n) where
  len := List.length_replicate
  row := fun r hr => by rw [(List.mem_replicate.mp hr).2, List.length_replicate]
  tri := fun i j _ => by
    unfold cell zerosT
    have z : ∀ (m k : Nat), nth (List.replicate m 0) k = 0 := fun m => by
      induction m with
      | zero => intro k; rfl
      | succ m ih =>
        intro k
        rw [List.replicate_succ]
        cases k with
        | zero => rfl
        | succ k => exact ih k
    by_cases hi : i < n + 1
    · rw [List.getElem?_replicate_of_lt hi]
      exact z _ _
    · rw [List.getElem?_eq_none (by rw [List.length_replicate]; omega)]
      rfl
theorem fall_eq (a : Nat) : ∀ k, k ≤ a → Builtin.Math.fallingProduct (a : Int) k = ((fall a k : Nat) : Int)
  | 0, _ => rfl
  | k + 1, h => by
    have ih := fall_eq a k (by omega)
    unfold Builtin.Math.fallingProduct at ih ⊢
    rw [List.range_succ, List.foldl_append, ih, fall, Int.natCast_mul]
    show ((fall a k : Nat) : Int) * ((a : Int) - (k : Int)) = _
    rw [Int.ofNat_sub (by omega)]
theorem comb_eq (a k : Nat) : PySem.W.mcComb (a : Int) (k : Int) = ((combN a k : Nat) : Int) := by
  unfold PySem.W.mcComb combN
  by_cases h : a < k
  · rw [if_pos (by omega), if_pos h]
    rfl
  · rw [if_neg (by omega), if_neg h]
    have e : min (k : Int) ((a : Int) - (k : Int)) = ((min k (a - k) : Nat) : Int) := by omega
    rw [e, Int.toNat_natCast, fall_eq a _ (by omega), fall_eq (min k (a - k)) _ (Nat.le_refl _)]
    rfl
theorem someOf_snoc : ∀ (r : List Nat) (i x : Nat), someOf (r ++ [x]) i = someOf r i + (i + r.length - 2) * x
  | [], i, x => by simp [someOf]
  | y :: r, i, x => by
    rw [List.cons_append, someOf, someOf, someOf_snoc r (i + 1) x, List.length_cons, show i + 1 + r.length = i + (r.length + 1) by omega]
    omega
theorem nats_ints (r : List Nat) : nats r = (r.map fun (x : Nat) => (x : Int)).map V.int := by
  unfold nats
  rw [List.map_map]
  rfl
theorem sum_cast : ∀ r : List Nat, (r.map fun (x : Nat) => (x : Int)).sum = ((r.sum : Nat) : Int)
  | [] => rfl
  | x :: r => by rw [List.map_cons, List.sum_cons, List.sum_cons, sum_cast r]; omega
theorem nats_app (a b : List Nat) : nats (a ++ b) = nats a ++ nats b := List.map_append
end Own

namespace Own
open PySem PySem.Spec PyProof.Rows L2

/-! ### sorted(xs), xs a list of tuples of data, the empty one among them *--/
section
variable {prog : Program} {w : World} {A : Around} {E : Value → Shared → Prop} {s : Shared}
theorem call_tuple_lt {Q : Value → Shared → Prop} {l b : Addr} {items items2 : Array Value} {e r : Nat → Bool} (hl : s.heap.IsTuple l items) (hb : s.heap.IsTuple b items2)
    (he : ∀ j (h1 : j < items.size) (h2 : j < items2.size), SeqAt.EqAt A.in1 s items[j] items2[j] (e j)) (hr : ∀ j (h1 : j < items.size) (h2 : j < items2.size), e j = false → SeqAt.RcLt A.in1 s items[j] items2[j] (r j))
    (h : Q (.bool (SeqAt.firstLt e r (decide (items.size < items2.size)) (List.range (min items.size items2.size)))) s) : wpAny (model prog w) A (call (.builtin "tuple.__lt__") [.ref l, .ref b]) Q E s := by
  obtain ⟨⟨cls, dd, data, sl⟩, ho, hc, n, hd⟩ := id hl
  obtain ⟨⟨cls2, dd2, data2, sl2⟩, ho2, hc2, n2, hd2⟩ := id hb
  simp only at hc hd hc2 hd2
  subst hc hd hc2 hd2
  exact PySem.call_meets PySem.F.slot_tuple_lt ⟨_, ho, rfl⟩ PySem.F.entry_tuple_lt (PySem.F.args_tuple_lt_2 _ _) (SeqAt.tuple_ltAt l b items items2 n n2 dd dd2 sl sl2 e r) ⟨ho, ho2, he, hr, h⟩
theorem oneLt_tuples {f : Bool} {xs ys : List PyData} {a b : Value} {as bs : List Addr} {Q : Bool → Shared → Prop} (ra : Reads s.heap a (.tuple xs) as) (rb : Reads s.heap b (.tuple ys) bs) (h : PySem.W.alike (.tuple xs) (.tuple ys) = true)
    (hu : A.units + min (PyData.tuple xs).depth (PyData.tuple ys).depth < cLine) (hq : Q (PySem.W.dataLt (.tuple xs) (.tuple ys)) s) : wpAny (model prog w) A (oneLt' f a b) Q E s := by
  cases f with
  | false => exact PySem.W.oneLt_alike (fun z => nomatch z) ra rb h (fun z => nomatch z) hu hq
  | true =>
    have hal : PySem.W.alikeAll xs ys = true := by simpa [PySem.W.alike] using h
    cases ra with
    | @tuple l o vs n _ as₁ h1 h2 h3 h4 =>
      cases rb with
      | @tuple l' o' vs' n' _ bs₁ k1 k2 k3 k4 =>
        have n1 : vs.size = xs.length := by simpa using SeqAt.ReadsAll.length _ _ _ h4
        have n2 : vs'.size = ys.length := by simpa using SeqAt.ReadsAll.length _ _ _ k4
        rw [PySem.W.dataLt_tuple, ← PySem.W.firstLt_toks xs ys hal, ← n1, ← n2] at hq
        rw [oneLt'_eq]
        simp only [if_true]
        refine wpAny_bind (wpAny_cRoomFor (SeqAt.room_here hu) ?_)
        refine wpAny_bind (wpAny_callSpecialIfBound?_slot (T := "tuple") ⟨_, h1, h2⟩ PySem.F.slot_tuple_lt (call_tuple_lt (e := SeqAt.pairEq xs ys) (r := fun j => PySem.W.dataLt (xs.getD j .none) (ys.getD j .none)) ⟨_, h1, h2, _, h3⟩ ⟨_, k1, k2, _, k3⟩ (fun j j1 j2 => ?_) (fun j j1 j2 hj => ?_) ?_))
        · have := PySem.W.eqAt_alikeAll xs ys A.in1 s vs.toList vs'.toList _ _ h4 k4 hal (SeqAt.room_in hu) j (by simpa using j1) (by simpa using j2)
          simpa using this
        · have := PySem.W.rcLt_alikeAll xs ys A.in1 s vs.toList vs'.toList _ _ h4 k4 hal (SeqAt.room_in hu) j (by simpa using j1) (by simpa using j2) hj
          simpa using this
        · exact wpAny_truthy_bool hq
/-- all are tuples, with the first items that they have *--/
def TupFs (h : Heap) : List Value → List (Option Value) → Prop
  | [], [] => True
  | v :: vs, f :: fs => (∃ a o xs n, v = .ref a ∧ h.get? a = some o ∧ o.cls = .type "tuple" ∧ o.data = .seq xs n ∧ xs[0]? = f) ∧ TupFs h vs fs
  | _, _ => False
theorem firsts_any : ∀ (vs : List Value) (fs : List (Option Value)) {Q : List (Option Value) → Shared → Prop}, TupFs s.heap vs fs → Q fs s → wpAny (model prog w) A (vs.mapM firstOfTuple') Q E s
  | [], [], _, _, h => by rw [List.mapM_nil]; exact wpAny_pure h
  | [], _ :: _, _, t, _ => t.elim
  | _ :: _, [], _, t, _ => t.elim
  | v :: vs, f :: fs, Q, t, h => by
    obtain ⟨⟨a, o, xs, n, rfl, ho, hc, hd, hf⟩, t⟩ := t
    rw [List.mapM_cons]
    refine wpAny_bind ?_
    rw [PySem.W.kas_first_eq]
    refine wpAny_bind (PySem.W.Looks.here (show PySem.W.Looks (model prog w) s.heap (typeOf (.ref a)) o.cls from (PySem.W.Looks.ld ho).andThen .now) ?_)
    rw [hc, if_neg (by first | decide | simp)]
    refine wpAny_bind (listItems_at ho hd (wpAny_pure ?_))
    rw [hf]
    exact wpAny_bind (firsts_any vs fs (Q := fun bs s' => wpAny (model prog w) A (pure (f :: bs)) Q E s') t (wpAny_pure h))
theorem tupFs_of : ∀ {vs : List Value} {ds : List PyData}, PySem.W.EachIs (fun v d => ∃ as, Reads s.heap v d as) vs ds → (∀ d, d ∈ ds → ∃ xs, d = .tuple xs) → ∃ fs, TupFs s.heap vs fs ∧ fs.length = vs.length ∧ ((fs.all fun x => x.isSome) = true → ∀ d, d ∈ ds → ∃ x r, d = .tuple (x :: r))
  | _, _, .nil, _ => ⟨[], trivial, rfl, fun _ d hd => nomatch hd⟩
  | _, _, .cons (b := d) ⟨as, r⟩ t, ht => by
    obtain ⟨fs, h1, h2, h3⟩ := tupFs_of t fun d hd => ht d (List.mem_cons_of_mem _ hd)
    obtain ⟨xs, rfl⟩ := ht d (List.mem_cons_self ..)
    cases r with
    | @tuple a o xs n _ _ ho hc hd hr =>
      refine ⟨xs[0]? :: fs, ⟨⟨a, o, xs, n, rfl, ho, hc, hd, rfl⟩, h1⟩, by rw [List.length_cons, List.length_cons, h2], fun hall d hm => ?_⟩
      rw [List.all_cons, Bool.and_eq_true] at hall
      rcases List.mem_cons.mp hm with z | z
      · subst z
        rename_i ds'
        cases ds' with
        | cons x r => exact ⟨x, r, rfl⟩
        | nil =>
          have hl : xs.toList = [] := by
            cases q : xs.toList with
            | nil => rfl
            | cons v vs =>
              rw [q] at hr
              cases hr
          have hx : xs[0]? = none := by rw [← Array.getElem?_toList, hl]; rfl
          rw [hx] at hall
          exact absurd hall.1 (by simp)
      · exact h3 hall.2 d z
theorem sortsAt_tuples {vs : List Value} {ds : List PyData} (e : PySem.W.EachIs (fun v d => ∃ as, Reads s.heap v d as) vs ds) (hal : PySem.W.AllAlike ds) (ht : ∀ d, d ∈ ds → ∃ xs, d = .tuple xs) (hu : ∀ d, d ∈ ds → A.units + d.depth < cLine) : PySem.W.SortsAt prog w A s (PySem.W.dataKind s.heap ds) vs := by
  by_cases hne : ∀ d, d ∈ ds → ∃ x r, d = .tuple (x :: r)
  · exact PySem.W.SortsAt.data e hal (.inl hne) hu
  have room : ∀ {d d' : PyData}, d ∈ ds → A.units + min d.depth d'.depth < cLine := fun {d d'} hd => Nat.lt_of_le_of_lt (Nat.add_le_add_left (Nat.min_le_left _ _) _) (hu d hd)
  have keys : ∀ v, v ∈ vs → ∃ a, (PySem.W.dataKind s.heap ds).keyOf v = some a := fun v hv => by
    obtain ⟨d, hd, as, r⟩ := e.left v hv
    exact ⟨_, PySem.W.dataKind_some hal hd r⟩
  have lt : ∀ (kd : SortKind) (f : Bool), (∀ x y, keyLt' kd x y = oneLt' f x y) → PyProof.Rows.H.LtAt prog w A s (PySem.W.dataKind s.heap ds) kd := fun kd f hk => by
    intro E x y a b Q ha hb hq
    obtain ⟨d, as, hd, ra, rfl⟩ := PySem.W.dataKind_inv ha
    obtain ⟨d', as', hd', rb, rfl⟩ := PySem.W.dataKind_inv hb
    have hr := room (d' := d') hd
    have hdd := hal d hd d' hd'
    obtain ⟨x1, rfl⟩ := ht d hd
    obtain ⟨x2, rfl⟩ := ht d' hd'
    rw [hk]
    exact oneLt_tuples ra rb hdd hr hq
  obtain ⟨fs, f1, f2, f3⟩ := tupFs_of e ht
  have hnot : (fs.all fun x => x.isSome) = false := by
    cases q : fs.all fun x => x.isSome with
    | false => rfl
    | true => exact absurd (f3 q) hne
  refine ⟨keys, ?_⟩
  by_cases g : (fs.toArray[0]?.bind id).isSome = true
  · refine ⟨general', lt _ false fun _ _ => rfl, fun h2 E Q hq => ?_⟩
    rw [kat_kind_eq, List.mapM_toArray, map_eq_pure_bind]
    refine wpAny_bind (wpAny_bind (firsts_any vs fs f1 (wpAny_pure ?_)))
    rw [if_neg (by simpa using hnot), if_pos g]
    exact wpAny_pure hq
  · refine ⟨oneType', lt _ true fun _ _ => rfl, fun h2 E Q hq => ?_⟩
    rw [kat_kind_eq, List.mapM_toArray, map_eq_pure_bind]
    refine wpAny_bind (wpAny_bind (firsts_any vs fs f1 (wpAny_pure ?_)))
    rw [if_neg (by simpa using hnot), if_neg g]
    rw [oneTypeOnly'_eq, List.mapM_toArray, map_eq_pure_bind]
    refine wpAny_bind (wpAny_bind (wpAny_bind (PySem.W.kas_mapM (r := Value.type "tuple") _ (fun v hv Q' hq' => ?_) (wpAny_pure ?_))))
    · obtain ⟨d, hd, as, r⟩ := e.left v hv
      obtain ⟨xs, rfl⟩ := ht d hd
      exact (PySem.W.looks_reads r).here hq'
    have hall : ((List.map (fun _ => Value.type "tuple") vs).toArray.all fun x => x == Value.type "tuple") = true := by
      simp only [List.all_toArray, List.all_map, List.all_eq_true]
      intro _ _
      exact beq_self_eq_true _
    have h0 : (List.map (fun _ => Value.type "tuple") vs).toArray[0]? = some (Value.type "tuple") := by
      cases vs with
      | nil => simp at h2
      | cons v vs => simp
    rw [h0]
    simp only [hall, if_true]
    exact wpAny_pure (wpAny_pure hq)
end
def rSortedD (K : PySem.W.Frag) : List V → Hp → VK → Prop := fun vs H Q => ∃ (a : Addr) (bs : List (V × PyData)), vs = [V.ref a] ∧ SqL K H a (bs.map Prod.fst) ∧ (∀ b ∈ bs, Dp K H b.1 b.2) ∧ PySem.W.AllAlike (bs.map Prod.snd) ∧ (∀ b ∈ bs, ∃ xs, b.2 = .tuple xs) ∧ (∀ b ∈ bs, b.2.depth ≤ 60) ∧
  ∀ p, H p = none → Q (.ref p) (upd H p (.lst ((bs.mergeSort (PySem.W.dataLe false Prod.snd)).map Prod.fst)))
theorem eachV_of : ∀ {bs : List (V × PyData)} {its : List Value}, Vals (bs.map Prod.fst) its → PySem.W.EachIs (fun v (p : V × PyData) => L2.RelV p.1 v) its bs
  | [], _, .nil => .nil
  | _ :: _, _, .cons r t => .cons r (eachV_of t)
theorem eachV_to : ∀ {bs : List (V × PyData)} {its : List Value}, PySem.W.EachIs (fun v (p : V × PyData) => L2.RelV p.1 v) its bs → Vals (bs.map Prod.fst) its
  | _, _, .nil => .nil
  | _, _, .cons r t => .cons r (eachV_to t)
section
variable {X : Cx}
theorem cr_sortedD (hu : X.A.units + 64 < cLine) : CallR X (.builtin "sorted") (rSortedD X.K) := by
  intro pins s σ H vs us Q I r h
  obtain ⟨a, bs, rfl, hs, hd, hal, ht, hdp, q⟩ := h
  obtain ⟨its, rv, hl, hz⟩ := I.list hs
  rw [Vals.ref1 r]
  have hzl : its.length ≤ sizeLine := by rw [← rv.length]; exact hz
  have e := eachV_of rv
  have er : PySem.W.EachIs (fun v (b : V × PyData) => ∃ as, Reads s.heap v b.2 as) its bs := (PySem.W.each_mem e).mono fun v b ⟨r1, hb⟩ => Dp.reads I b.2 b.1 v (hd b hb) r1
  have er' : PySem.W.EachIs (fun v (b : V × PyData) => ∃ as, Reads (PySem.W.sortingHeap (PySem.W.copyHeap s.heap its) (s.heap.objs.size + 1) its) v b.2 as) its bs := er.mono fun _ _ ⟨as, r⟩ => ⟨as, PyProof.Rows.Reads.keeps (fun _ _ => PySem.W.sorting_copy_old) r⟩
  refine PySem.W.sorted_vals hl.isList (sortsAt_tuples (s := { s with heap := PySem.W.sortingHeap (PySem.W.copyHeap s.heap its) (s.heap.objs.size + 1) its }) (PySem.W.each_map (R := fun v d => ∃ as, Reads (PySem.W.sortingHeap (PySem.W.copyHeap s.heap its) (s.heap.objs.size + 1) its) v d as) Prod.snd er') hal (fun d hd => ?_) (fun d hd => ?_)) hzl ?_
  · obtain ⟨b, hb, rfl⟩ := List.mem_map.mp hd
    exact ht b hb
  · obtain ⟨b, hb, rfl⟩ := List.mem_map.mp hd
    have := hdp b hb
    show X.A.units + 1 + 1 + b.2.depth < cLine
    omega
  have out := PySem.W.sortVals_data false e er' hal
  have rv2 := eachV_to out
  obtain ⟨ep, he'⟩ := PyProof.Rows.sortedAll_at s.heap its (PySem.W.sortVals (PySem.W.dataKind (PySem.W.sortingHeap (PySem.W.copyHeap s.heap its) (s.heap.objs.size + 1) its) (bs.map Prod.snd)) false its its).toArray
  refine ⟨.ref _, upd H (s.heap.objs.size + 1) (.lst ((bs.mergeSort (PySem.W.dataLe false Prod.snd)).map Prod.fst)), I.laid (t' := s.toks) (fun _ _ => PyProof.Rows.sortedAll_old) (Nat.le_succ _) ⟨?_, _, ep, rv2, he'⟩, rfl, q _ (I.hok.fresh (Nat.le_succ _))⟩
  rw [List.length_map, (List.mergeSort_perm _ _).length_eq]
  rw [List.length_map] at hz
  exact hz
/-- tuples of whole numbers, of any length *--/
def rSortedTI (K : PySem.W.Frag) : List V → Hp → VK → Prop := fun vs H Q => ∃ (a : Addr) (bs : List (V × List Int)), vs = [V.ref a] ∧ SqL K H a (bs.map Prod.fst) ∧ (∀ b ∈ bs, ∃ t, b.1 = .ref t ∧ SqT K H t (b.2.map V.int)) ∧
  ∀ p, H p = none → Q (.ref p) (upd H p (.lst ((bs.mergeSort fun x y => decide (x.2 ≤ y.2)).map Prod.fst)))
theorem dataLe_tups {β : Type} (x : β → List Int) : PySem.W.dataLe false (fun b => .tuple ((x b).map .int)) = fun p q => decide (x p ≤ x q) := by
  funext p q
  show (!PySem.W.dataLt (.tuple ((x q).map .int)) (.tuple ((x p).map .int))) = _
  rw [PySem.W.dataLt_tuple]
  show (!PySem.W.rowLt ((x q).map .int) ((x p).map .int)) = _
  rw [PySem.W.dataLt_ints]
  by_cases h : x q < x p
  · have h' : ¬ x p ≤ x q := fun r => List.not_lt.mpr r h
    simp [h, h']
  · have h' : x p ≤ x q := List.not_lt.mp h
    simp [h, h']
theorem alike_ints : ∀ xs ys : List Int, PySem.W.alikeAll (xs.map .int) (ys.map .int) = true
  | [], _ => by rw [List.map_nil, PySem.W.alikeAll]
  | _ :: _, [] => by rw [List.map_cons, List.map_nil, PySem.W.alikeAll]
  | x :: xs, y :: ys => by rw [List.map_cons, List.map_cons, PySem.W.alikeAll, alike_ints xs ys]; rfl
theorem dpAll_ints {K : PySem.W.Frag} {H : Hp} : ∀ ms : List Int, DpAll K H (ms.map V.int) (ms.map PyData.int)
  | [] => .nil
  | m :: ms => .cons (.int m) (dpAll_ints ms)
theorem depthAll_ints : ∀ ms : List Int, PyData.depthAll (ms.map PyData.int) = 0
  | [] => by simp [PyData.depthAll]
  | m :: ms => by simp [PyData.depthAll, PyData.depth, depthAll_ints ms]
theorem cr_sortedTI (hu : X.A.units + 64 < cLine) : CallR X (.builtin "sorted") (rSortedTI X.K) := by
  intro pins s σ H vs us Q I r h
  obtain ⟨a, bs, rfl, hs, ht, q⟩ := h
  refine cr_sortedD hu pins s σ H _ us Q I r ⟨a, bs.map fun b => (b.1, .tuple (b.2.map .int)), rfl, ?_, ?_, ?_, ?_, ?_, fun p hp => ?_⟩
  · rw [List.map_map]
    exact hs
  · intro b hb
    obtain ⟨c, hc, rfl⟩ := List.mem_map.mp hb
    obtain ⟨t, e, h⟩ := ht c hc
    rw [e]
    exact .tup h (dpAll_ints _)
  · intro x hx y hy
    rw [List.map_map] at hx hy
    obtain ⟨b, _, rfl⟩ := List.mem_map.mp hx
    obtain ⟨c, _, rfl⟩ := List.mem_map.mp hy
    show PySem.W.alike (.tuple _) (.tuple _) = true
    rw [PySem.W.alike]
    exact alike_ints _ _
  · intro b hb
    obtain ⟨c, hc, rfl⟩ := List.mem_map.mp hb
    exact ⟨_, rfl⟩
  · intro b hb
    obtain ⟨c, hc, rfl⟩ := List.mem_map.mp hb
    show (PyData.tuple _).depth ≤ 60
    rw [PyData.depth, depthAll_ints]
    omega
  · have e : (bs.map fun b => ((b.1, .tuple (b.2.map .int)) : V × PyData)).mergeSort (PySem.W.dataLe false Prod.snd) = (bs.mergeSort fun x y => decide (x.2 ≤ y.2)).map fun b => ((b.1, .tuple (b.2.map .int)) : V × PyData) := by
      symm
      refine List.map_mergeSort fun x _ y _ => ?_
      have z := congrFun (congrFun (dataLe_tups (β := V × List Int) Prod.snd) x) y
      exact z.symm
    rw [e, List.map_map]
    exact q p hp
/-- x in c, x not in c: data in a list or a tuple of data -/
def rInE (K : PySem.W.Frag) (neg : Bool) : R2 := fun x y H Q => ∃ d ds, Dp K H x d ∧ (Dp K H y (.list ds) ∨ Dp K H y (.tuple ds)) ∧ d.canLay0 = true ∧ PyData.canLayAll0 ds = true ∧ d.depth ≤ 60 ∧ Q (.bl (if neg then !ds.any fun z => PyData.eqv z d else ds.any fun z => PyData.eqv z d)) H
theorem op_inE (hu : X.A.units + 64 < cLine) : OpR X (compareOp .In) (rInE X.K false) := by
  intro pins s σ H x y v u Q I rx ry h
  obtain ⟨d, ds, hd, he, sd, se, dd, q⟩ := h
  obtain ⟨as, r1⟩ := Dp.reads I d x v hd rx
  have hroom : X.A.units + 1 + min (PyData.depthAll ds) d.depth < cLine := by omega
  rcases he with he | he
  · obtain ⟨bs, r2⟩ := Dp.reads I (.list ds) y u he ry
    exact SeqAt.in_list_reads r2 r1 se sd hroom ⟨.bl _, H, I, rfl, q⟩
  · obtain ⟨bs, r2⟩ := Dp.reads I (.tuple ds) y u he ry
    exact SeqAt.in_tuple_reads r2 r1 se sd hroom ⟨.bl _, H, I, rfl, q⟩
theorem op_notInE (hu : X.A.units + 64 < cLine) : OpR X (compareOp .NotIn) (rInE X.K true) := by
  intro pins s σ H x y v u Q I rx ry h
  obtain ⟨d, ds, hd, he, sd, se, dd, q⟩ := h
  obtain ⟨as, r1⟩ := Dp.reads I d x v hd rx
  have hroom : X.A.units + 1 + min (PyData.depthAll ds) d.depth < cLine := by omega
  rcases he with he | he
  · obtain ⟨bs, r2⟩ := Dp.reads I (.list ds) y u he ry
    exact SeqAt.notIn_list_reads r2 r1 se sd hroom ⟨.bl _, H, I, rfl, q⟩
  · obtain ⟨bs, r2⟩ := Dp.reads I (.tuple ds) y u he ry
    exact SeqAt.notIn_tuple_reads r2 r1 se sd hroom ⟨.bl _, H, I, rfl, q⟩
end
end Own

namespace Own
open PySem PySem.Spec PyProof.Rows L2
/-! ### errors of the program with an own `__init__` that calls that of a class of the program -/
section
variable {X : Cx} {bn : Str} {C0 : Addr} {e : Expr} {es : List Expr} {ta : TA} {p1 p2 pos : PySem.Pos}
/-- Base.__init__(self, ..), Base a class of the program that takes its `__init__` from ValueError -/
theorem pe_bcinit {pl : Sem Bool} (hg : Gl X bn) (hm : X.mg bn = some (.ref C0)) (r : ClX.CRead X.K C0 (.type "type"))
    (vV : PySem.W.findCls X.K (.ref C0) (.type "type") "__init__" = some (.val (.builtin "ValueError.__init__"))) (ha : PA X (e :: es) ta) (hdb : (bn == ("__debug__" : Str)) = false := by decide)
    (hc : eval (.Call (.Attribute (.Name bn p1) "__init__" p2) (e :: es) [] pos) X.env = (do
      let ov ← eval (.Name bn p1) X.env
      standAt p2.atName
      let (f, first) ← holding [ov] (getMethod ov "__init__" pl)
      callWith pos f first (backTo pos (starEach (e :: es) X.env)) (backToKw pos (keywordEach [] X.env))) := by rfl)
    (he : starEach (e :: es) X.env = (false, eval e X.env) :: starEach es X.env := by rfl) (hpl : (backTo pos (starEach es X.env)).any (·.1) = false := by rfl) :
    PE X (.Call (.Attribute (.Name bn p1) "__init__" p2) (e :: es) [] pos) (tVeI X.K ta) := by
  constructor
  intro pins s σ H Q I h
  refine PySem.W.methodCall_KW (he := hc) ?_
  apply ld_glob I hg hm _ hdb
  apply PySem.W.method_cls I.kIn r.ga
  apply PySem.W.cls_value I.kIn r.rd vV rfl
  show wpAny _ _ (callWith pos (Value.builtin "ValueError.__init__") [] (backTo pos (starEach (e :: es) X.env)) []) _ _ _
  apply PyProof.Rows.callWith_method1 _ he hpl
  apply thn (ha.run pos pins _ σ H _ (I.tok _) h)
  intro us s1 g
  obtain ⟨vs, H1, I1, r1, a, C, ws, ev, hl, T, ea, q⟩ := g
  subst ev
  match us, r1 with
  | _ :: ur, .cons ra rw' =>
    cases ra
    have hlen : ur.length ≤ sizeLine := by
      have := Paired.length rw'
      rw [sizeLine_eq]
      omega
    exact oinit_ok T I1 ea hlen fun s' J => ⟨.non, H1, J, rfl, q⟩
end
/-! ### isinstance of the error that a suite holds, with or without fields of its own -/
def rIsD (K : PySem.W.Frag) (cls : Value) (d : Option Addr) (a : Addr) : List V → Hp → VK → Prop := fun xs H Q => ∃ (D : Addr) (c : V) (cv : Value) (b : Bool), cls = .ref D ∧ ExcC K D ∧
  (d = none ∨ ∃ dd fs, d = some dd ∧ H dd = some (.xd fs)) ∧ xs = [.ref a, c] ∧ (∀ u, RelV c u → u = cv) ∧ PySem.W.kitOne K (.ref D) cv = some b ∧ Q (.bl b) H
theorem call_isD {X : Cx} {a : Addr} {oe : Obj} {cls : Value} {d : Option Addr} {pn : List (Addr × Obj)} (hz : Zc cls d oe) (hf : ∃ vs, oe.data = .fields vs) : CallR (X.suite a ((a, oe) :: pn)) (.builtin "isinstance") (rIsD X.K cls d a) := by
  intro pins s σ H xs us Q I r h
  obtain ⟨D, c, cv, b, e1, C, hd, e2, hcv, ek, q⟩ := h
  subst e1 e2
  match us, r with
  | [_, _], .cons rx (.cons rt .nil) =>
    cases rx
    have ec := hcv _ rt
    subst ec
    obtain ⟨hget, _⟩ := I.pin (a, oe) (List.mem_append_left _ List.mem_cons_self)
    obtain ⟨vs, hv⟩ := hf
    obtain ⟨od, J⟩ : ∃ od, PySem.W.InstAt s.heap a oe D od := by
      obtain ⟨oc, odi, oda, osl⟩ := oe
      obtain ⟨h1, h2⟩ := hz
      dsimp only at h1 h2 hv
      subst h1 h2 hv
      rcases hd with hd | ⟨dd, fs, hd, hx⟩
      · subst hd
        exact ⟨none, hget, rfl, rfl, trivial⟩
      · subst hd
        have hx' : ObjOk X.prog X.w H s.heap dd (.xd fs) := I.hok dd _ hx
        obtain ⟨mA, hns, _⟩ := hx'
        obtain ⟨od, ho, _⟩ := lookIn_ns hns
        exact ⟨some od, hget, rfl, rfl, ho⟩
    have hcl : (PySem.W.clsIn X.K D).isSome = true := by
      obtain ⟨cd, hcd, _⟩ := PySem.W.any_some C.hd
      rw [hcd]
      rfl
    exact PySem.W.kia_one (PySem.W.kitx_exc hcl C.hg C.hk C.hs C.ha C.hn C.ht C.hm) I.kIn J ek (fun z => nomatch z) fun tk => ⟨.bl b, H, I.kept (t' := tk) fun _ _ z => z, rfl, q⟩
/-! ### the promise of such an `__init__`, and of the raise -/
def spInit1 (C : Addr) (f : Str) : Sp := fun vs H Q _ => ∃ (a : Addr) (v : V), vs = [.ref a, v] ∧ H a = some (exo a C none) ∧
  ∀ dx, H dx = none → dx ≠ a → Q .non (upd (upd H dx (exd dx [(f, v)])) a (exo a C (some dx)))
/-- how the raise of such an error reads in the end -/
theorem raise_init {C : Addr} {f : Str} {H : Hp} {v : V} {Q : XK} (h : ∀ d, H d = none → Q (.ref C) (some d) (upd H d (.xd [(f, v)]))) :
    ([v] : List V).length ≤ 1000 ∧ ∀ a, H a = none → spInit1 C f (.ref a :: ([v] ++ [])) (upd H a (exo a C none))
      (fun u H2 => u = .non ∧ ∃ (d : Addr) (fs : List (Str × V)), H2 a = some (exo a C (some d)) ∧ H2 d = some (exd d fs) ∧ H d = none ∧ Q (.ref C) (some d) (upd (del H2 a) d (.xd fs))) (fun _ _ _ => False) := by
  refine ⟨Nat.le_of_ble_eq_true rfl, fun a ha => ⟨a, v, rfl, upd_same, fun dx hd hne => ⟨rfl, dx, [(f, v)], upd_same, ?_, ?_, ?_⟩⟩⟩
  · rw [upd_ne hne, upd_same]
  · rwa [upd_ne hne] at hd
  · rw [upd_ne hne] at hd
    have e : upd (del (upd (upd (upd H a (exo a C none)) dx (exd dx [(f, v)])) a (exo a C (some dx))) a) dx (.xd [(f, v)]) = upd H dx (.xd [(f, v)]) := by
      funext b
      by_cases hb : b = dx
      · rw [hb, upd_same, upd_same]
      · rw [upd_ne hb, upd_ne hb]
        by_cases hb2 : b = a
        · rw [hb2, del_same, ha]
        · rw [del_ne hb2, upd_ne hb2, upd_ne hb, upd_ne hb2]
    rw [e]
    exact h dx hd
/-- the i-th statement of a class -/
def clsAt (s : Stmt) (i : Nat) : Stmt := match s with
  | .ClassDef _ _ _ body _ _ _ _ _ _ _ => body.getD i (.Pass ⟨0, 0, 0, 0⟩)
  | _ => .Pass ⟨0, 0, 0, 0⟩
theorem kit_sub {K : PySem.W.Frag} {t : Value} {D : Addr} (h2 : PySem.W.isClsIn K D = true) (h3 : PySem.W.typeIn K (.ref D) = some (.type "type")) (h4 : PySem.W.subIn K t (.ref D) = some true) : PySem.W.kitOne K t (.ref D) = some true := by
  have g : ((PySem.W.clsIn K D).isSome && PySem.W.typeIn K (.ref D) == some (.type "type")) = true := by
    have h2' : (PySem.W.clsIn K D).isSome = true := h2
    rw [h2', h3]
    rfl
  unfold PySem.W.kitOne PySem.W.kitCls
  split
  · rfl
  · simp only [g, if_true]
    exact h4
/-- xs.m(..) inside a comprehension, whose reading may not name the block's own context -/
theorem pe_bmK {X : Cx} (K : PySem.W.Frag) {o e : Expr} {es : List Expr} {to : TE} {t : TA} {name : Str} {apos cpos : PySem.Pos} {T id : String} {r : V → List V → Hp → VK → Prop} (hK : X.K = K) (pa : PlainAttrs T) (slot : Slot T name id)
    (hty : typeOf (.builtin id) = pure (.type "method_descriptor")) (hm : MtR X id r) (ho : PE X o to) (ha : PA X (e :: es) t)
    (hbase : attributeBase o name X.env (eval o X.env) = eval o X.env := by rfl)
    (hfew : ((backTo cpos (starEach (e :: es) X.env)).all (fun x => !x.1) && (backToKw cpos (keywordEach [] X.env)).all (fun x => x.1.isSome)
      && decide ((e :: es).length + ([] : List Keyword).length + (if ([] : List Keyword).isEmpty then 0 else 1) < 30)) = true := by rfl)
    (hline : (apos.endLine == cpos.line) = true := by rfl) (hs : starEach (e :: es) X.env = (false, eval e X.env) :: starEach es X.env := by rfl) (hplain : (backTo cpos (starEach es X.env)).any (·.1) = false := by rfl) :
    PE X (.Call (.Attribute o name apos) (e :: es) [] cpos) (tBM K T r to t) := by
  subst hK
  exact pe_bm pa slot hty hm ho ha hbase hfew hline hs hplain
/-! ### sorted of a tuple of whole numbers -/
def rSortedIT (K : PySem.W.Frag) : List V → Hp → VK → Prop := fun vs H Q => ∃ (a : Addr) (ns : List Int), vs = [V.ref a] ∧ SqT K H a (ns.map V.int) ∧
  ∀ (ns' : List Int) (p : Addr), ns'.Perm ns → ns'.Pairwise (· ≤ ·) → H p = none → Q (.ref p) (upd H p (.lst (ns'.map V.int)))
theorem cr_sortedIT {X : Cx} : CallR X (.builtin "sorted") (rSortedIT X.K) := by
  intro pins s σ H vs us Q I r h
  obtain ⟨a, ns, rfl, hs, q⟩ := h
  rw [Vals.ref1 r]
  obtain ⟨its, rv, ht, hz⟩ := I.tuple hs
  obtain ⟨o, ho, hc, n, hd⟩ := ht
  have hzl : its.length ≤ sizeLine := by
    rw [← rv.length]
    exact hz
  have hi := rv.ints
  refine Calls.call_function_entry kind_sorted plain_sorted entry_sorted (args_sorted1 _) ?_
  unfold Builtin.«sorted»
  refine wpAny_bind (m := checkCount "sorted" 1 1 _) (wpAny_pure ?_)
  refine wpAny_bind (wpAny_collect_seq a (.inr rfl) ho hc hd (fun h' hk => ?_) (by rw [List.size_toArray]; exact hzl))
  have I' := I.kept (t' := s.toks) hk
  refine wpAny_bind (wpAny_newList ?_ hzl)
  have hoL : (h'.push (seqObj "list" its.toArray 0)).get? h'.objs.size = some (seqObj "list" its.toArray 0) := Heap.get?_push_size _ rfl
  have keep : ∀ b u, h'.get? b = some u → b ≠ h'.objs.size ∧ (h'.push (seqObj "list" its.toArray 0)).get? b = some u := fun b u e => ⟨Nat.ne_of_lt (Heap.lt_size e), Heap.get?_push_of_some _ e⟩
  refine wpAny_bind (wpAny_holding (wpAny_call_entry slot_list_sort ⟨_, hoL, rfl⟩ entry_list_sort (SrtO.list_sort_ord SrtO.swo_int hoL hzl (fun h2 => SrtO.ints_sortable hi h2) fun out h1 h2 => ⟨_, rfl, ?_⟩) (args_list_sort _)))
  obtain ⟨k1, k2, k3⟩ := SrtO.ints_out hi h1 h2
  obtain ⟨ep, he'⟩ := PyProof.Rows.sortedHeap_at (h := h'.push (seqObj "list" its.toArray 0)) (n := 0) (out := out.toArray) hoL
  have hlen : ((out.map SrtO.iv).map V.int).length ≤ sizeLine := by
    rw [List.length_map, k2.length_eq]
    rw [List.length_map] at hz
    exact hz
  refine wpAny_pure ⟨_, rfl, ?_⟩
  exact ⟨.ref _, upd H h'.objs.size (.lst ((out.map SrtO.iv).map V.int)), I'.laid (t' := s.toks) (fun b u e => by
    rw [PyProof.Rows.sortedHeap_old (keep b u e).1 (Heap.lt_size (keep b u e).2)]
    exact (keep b u e).2) (Nat.le_refl _) ⟨hlen, out, ep, vals_of_ints k1, he'⟩, rfl, q _ _ k2 k3 (I'.hok.fresh (Nat.le_refl _))⟩
end Own

namespace Own
open PySem PySem.Spec PyProof.Rows L2
/-! ### repr of data with dicts in it: none of its lists may stand where sys.modules does -/
def keyD : Key → PyData
  | .inl i => .int i
  | .inr x => .str x
mutual
inductive DpD (K : PySem.W.Frag) (H : Hp) : V → PyData → Prop
  | non : DpD K H .non .none
  | bl (b : Bool) : DpD K H (.bl b) (.bool b)
  | int (i : Int) : DpD K H (.int i) (.int i)
  | str (x : Str) : DpD K H (.str x) (.str x)
  | lst {a : Addr} {xs : List V} {ds : List PyData} : a ≠ sysModules → SqL K H a xs → DpDAll K H xs ds → DpD K H (.ref a) (.list ds)
  | tup {a : Addr} {xs : List V} {ds : List PyData} : SqT K H a xs → DpDAll K H xs ds → DpD K H (.ref a) (.tuple ds)
  | dct {a : Addr} {kvs : List (Key × V)} {ds : List PyData} : H a = some (.dK kvs) → DpDAll K H (kvs.map (·.2)) ds → DpD K H (.ref a) (.dict ((kvs.map fun p => keyD p.1).zip ds))
inductive DpDAll (K : PySem.W.Frag) (H : Hp) : List V → List PyData → Prop
  | nil : DpDAll K H [] []
  | cons {v : V} {vs : List V} {d : PyData} {ds : List PyData} : DpD K H v d → DpDAll K H vs ds → DpDAll K H (v :: vs) (d :: ds)
end
theorem reads_keys {P : Program} {w : World} {h : Heap} : ∀ {es : List DictEntry} {vs : List (Key × Value)} {kvs : List (Key × V)}, Pairs (mixKind P w) es vs → KV kvs vs → ReadsAll h (es.map (·.key)) (kvs.map fun p => keyD p.1) []
  | _, _, _, .nil, .nil => .nil
  | e :: _, _, (k, _) :: _, .cons hk _ hp, .cons r t => by
    have ih := reads_keys (h := h) hp t
    have hk' := hk
    rw [← r.1] at hk'
    rw [List.map_cons, List.map_cons]
    rcases keyIs_shape hk' with ⟨i, t, rfl, e2⟩ | ⟨x, t, rfl, e2⟩
    · rw [e2]
      exact .cons (as := []) (bs := []) (.int i t) ih
    · rw [e2]
      exact .cons (as := []) (bs := []) (.str x t) ih
theorem vals_of_kv {P : Program} {w : World} : ∀ {es : List DictEntry} {vs : List (Key × Value)} {kvs : List (Key × V)}, Pairs (mixKind P w) es vs → KV kvs vs → Vals (kvs.map (·.2)) (es.map (·.val))
  | _, _, _, .nil, .nil => .nil
  | _, _, _ :: _, .cons _ hv hp, .cons r t => by
    rw [List.map_cons, List.map_cons]
    refine .cons ?_ (vals_of_kv hp t)
    rw [hv]
    exact r.2
theorem DpDAll.length {K : PySem.W.Frag} {H : Hp} : ∀ {vs : List V} {ds : List PyData}, DpDAll K H vs ds → vs.length = ds.length
  | _, _, .nil => rfl
  | _, _, .cons _ t => by rw [List.length_cons, List.length_cons, t.length]
section
variable {X : Cx} {pins : List (Addr × Obj)} {σ : L2.St} {H : Hp} {s : Shared}
mutual
theorem DpD.reads (I : Inv X pins σ H s) : ∀ {v : V} {d : PyData} {u : Value}, DpD X.K H v d → RelV v u → ∃ as, Reads s.heap u d as ∧ sysModules ∉ as
  | _, _, _, .non, r => by
    cases r
    exact ⟨_, Reads.none, by simp⟩
  | _, _, _, .bl b, r => by
    cases r
    exact ⟨_, Reads.bool b, by simp⟩
  | _, _, _, .int i, r => by
    obtain ⟨t, rfl⟩ := r
    exact ⟨_, Reads.int i t, by simp⟩
  | _, _, _, .str x, r => by
    obtain ⟨t, rfl⟩ := r
    exact ⟨_, Reads.str x t, by simp⟩
  | _, _, _, .lst n hs ha, r => by
    cases r
    obtain ⟨its, rv, ⟨o, m, ho, hc, _, hd⟩, _⟩ := I.list hs
    obtain ⟨as, hr, hn⟩ := DpDAll.reads I (us := its) ha rv
    refine ⟨_, Reads.list ho hc hd hr, ?_⟩
    intro z
    rcases List.mem_cons.mp z with z | z
    · exact n z.symm
    · exact hn z
  | _, _, _, .tup hs ha, r => by
    cases r
    obtain ⟨its, rv, ⟨o, ho, hc, n, hd⟩, _⟩ := I.tuple hs
    obtain ⟨as, hr, hn⟩ := DpDAll.reads I (us := its) ha rv
    exact ⟨_, Reads.tuple ho hc hd hr, hn⟩
  | _, _, _, .dct (a := a) (kvs := kvs) (ds := ds) hd ha, r => by
    cases r
    obtain ⟨_, hne, vs, rel, o, es, ep, ho, hx, hdat, _, hp, _⟩ := dk_of I.hok hd
    have hl := ha.length
    rw [List.length_map] at hl
    obtain ⟨bs, hr, hn⟩ := DpDAll.reads I ha (vals_of_kv hp rel)
    have e1 : (((kvs.map fun p => keyD p.1).zip ds).map (·.1)) = kvs.map fun p => keyD p.1 := by
      rw [List.map_fst_zip]
      rw [List.length_map, hl]
      exact Nat.le_refl _
    have e2 : (((kvs.map fun p => keyD p.1).zip ds).map (·.2)) = ds := by
      rw [List.map_snd_zip]
      rw [List.length_map, hl]
      exact Nat.le_refl _
    refine ⟨a :: [] ++ bs, Reads.dict ho hx.1 hdat (by rw [e1]; exact reads_keys hp rel) (by rw [e2]; exact hr), ?_⟩
    intro z
    rcases List.mem_cons.mp z with z | z
    · rw [← z] at hne
      simp at hne
    · exact hn (by simpa using z)
theorem DpDAll.reads (I : Inv X pins σ H s) : ∀ {vs : List V} {ds : List PyData} {us : List Value}, DpDAll X.K H vs ds → Vals vs us → ∃ as, ReadsAll s.heap us ds as ∧ sysModules ∉ as
  | _, _, _, .nil, r => by
    cases r
    exact ⟨_, ReadsAll.nil, by simp⟩
  | _, _, _, .cons h1 h2, r => by
    cases r with
    | cons r1 r2 =>
      obtain ⟨as, q1, n1⟩ := DpD.reads I h1 r1
      obtain ⟨bs, q2, n2⟩ := DpDAll.reads I h2 r2
      exact ⟨_, ReadsAll.cons q1 q2, fun z => (List.mem_append.mp z).elim n1 n2⟩
end
end
def rReprD (K : PySem.W.Frag) : List V → Hp → VK → Prop := fun xs H Q =>
  ∃ (v : V) (d : PyData), xs = [v] ∧ DpD K H v d ∧ d.showable = true ∧ d.depth ≤ 60 ∧ d.shown.length ≤ sizeLine ∧ Q (.str d.shown) H
theorem call_reprD {X : Cx} (hg : X.A.guards = some []) (hu : X.A.units + 64 < cLine) : CallR X (.builtin "repr") (rReprD X.K) := by
  intro pins s σ H xs us Q I rv h
  obtain ⟨v, d, rfl, hd, hs, hdp, hz, q⟩ := h
  obtain ⟨u, rfl, ru⟩ := vals1 rv
  obtain ⟨as, rd, hn⟩ := DpD.reads I hd ru
  cases rd with
  | none => exact PySem.P.repr_of_none ⟨.str "None", H, I.tok _, ⟨_, rfl⟩, by simpa only [PyData.shown] using q⟩
  | bool b => exact PySem.P.repr_of_bool ⟨.str _, H, I.tok _, ⟨_, rfl⟩, by simpa only [PyData.shown] using q⟩
  | int i t => exact PySem.P.repr_of_int (by simpa [PyData.showable] using hs) ⟨.str _, H, I.tok _, ⟨_, rfl⟩, by simpa only [PyData.shown] using q⟩
  | str y t => exact PySem.P.repr_of_str ⟨.str _, H, I.tok _, ⟨_, rfl⟩, by simpa only [PyData.shown] using q⟩ (by simpa only [PyData.shown] using hz)
  | list h1 h2 h3 h4 =>
    exact repr_of_reads' (.list h1 h2 h3 h4) hs (fun _ => hn) hg (by omega) (fun _ _ e => e) (fun h' w' tk hk => ⟨.str _, H, I.kept (t' := tk) hk, ⟨_, rfl⟩, q⟩) hz
  | tuple h1 h2 h3 h4 =>
    exact repr_of_reads' (.tuple h1 h2 h3 h4) hs (fun _ => hn) hg (by omega) (fun _ _ e => e) (fun h' w' tk hk => ⟨.str _, H, I.kept (t' := tk) hk, ⟨_, rfl⟩, q⟩) hz
  | dict h1 h2 h3 h4 h5 =>
    exact repr_of_reads' (.dict h1 h2 h3 h4 h5) hs (fun _ => hn) hg (by omega) (fun _ _ e => e) (fun h' w' tk hk => ⟨.str _, H, I.kept (t' := tk) hk, ⟨_, rfl⟩, q⟩) hz
/-! ### new lists that do not stand where sys.modules does -/
theorem size_ne {X : Cx} {pins : List (Addr × Obj)} {σ : L2.St} {H : Hp} {s : Shared} (I : Inv X pins σ H s) {a : Addr} (h : s.heap.objs.size ≤ a) : a ≠ sysModules := Nat.ne_of_gt (Nat.lt_of_lt_of_le I.big h)
def tLstB (t : TA) : TE := fun σ H Q => t σ H fun xs H1 => xs.length ≤ sizeLine ∧ ∀ p, H1 p = none → p ≠ sysModules → Q (.ref p) (upd H1 p (.lst xs))
theorem pe_lstB {X : Cx} {es : List Expr} {t : TA} {pos : PySem.Pos} (h : PA X es t) : PE X (.List es pos) (tLstB t) := by
  constructor
  intro pins s σ H Q I hq
  apply wpAny_List_spliced
  apply thn (h.run pos pins s σ H _ I hq)
  intro us s1 g
  obtain ⟨xs, H1, I1, r, z, q⟩ := g
  have hl := Nat.le_refl s1.heap.objs.size
  refine ⟨by rw [← r.length]; exact z, .ref s1.heap.objs.size, upd H1 s1.heap.objs.size (.lst xs), ?_, rfl, q _ (I1.hok.fresh hl) (size_ne I1 hl)⟩
  exact I1.laid (t' := s1.toks) (fun b u e => Heap.get?_push_of_some _ e) hl ⟨z, us, 0, r, Heap.get?_push_size _ rfl⟩
theorem call_list_ofB {X : Cx} : CallR X (.type "list") (fun xs H Q => ∃ p ys, xs = [.ref p] ∧ (SqL X.K H p ys ∨ SqT X.K H p ys) ∧ ∀ l, H l = none → l ≠ sysModules → Q (.ref l) (upd H l (.lst ys))) := by
  intro pins s σ H xs us Q I r h
  obtain ⟨p, ys, rfl, hq, q⟩ := h
  obtain ⟨u, rfl, rx⟩ := vals1 r
  cases rx
  have hl := Nat.le_refl s.heap.objs.size
  have fin : ∀ (its : List Value) (h' : Heap) (c' : Nat), Vals ys its → ys.length ≤ sizeLine → (∀ b o', s.heap.get? b = some o' → h'.get? b = some o') →
      h'.get? s.heap.objs.size = some { cls := .type "list", dict := none, data := .seq its.toArray c', slots := #[] } → EP X pins σ Q (.ref s.heap.objs.size) { s with heap := h' } := fun its h' c' rv hz kp e =>
    ⟨.ref s.heap.objs.size, upd H s.heap.objs.size (.lst ys), I.laid (t' := s.toks) kp hl (show ObjOk X.prog X.w _ h' _ (.lst ys) from ⟨hz, its, c', rv, e⟩), rfl, q _ (I.hok.fresh hl) (size_ne I hl)⟩
  rcases hq with hq | hq
  · obtain ⟨its, rv, pl, hz⟩ := I.list hq
    obtain ⟨o, ho, hc, n, hd⟩ := pl.isList
    exact call_list_seq p (.inl rfl) ho hc hd (fun h' c' kp e => fin its h' c' rv hz kp e) (by rw [List.size_toArray, ← rv.length]; exact hz)
  · obtain ⟨its, rv, pl, hz⟩ := I.tuple hq
    obtain ⟨o, ho, hc, n, hd⟩ := pl
    exact call_list_seq p (.inr rfl) ho hc hd (fun h' c' kp e => fin its h' c' rv hz kp e) (by rw [List.size_toArray, ← rv.length]; exact hz)
/-! ### how long a repr is at most, dicts too -/
mutual
def costD : PyData → Nat
  | .none => 4
  | .bool _ => 5
  | .int _ => 1922
  | .str x => (reprText x).length
  | .list xs => costDs xs + 4
  | .tuple xs => costDs xs + 4
  | .dict kvs => costKv kvs + 4
def costDs : List PyData → Nat
  | [] => 0
  | x :: r => costD x + 2 + costDs r
def costKv : List (PyData × PyData) → Nat
  | [] => 0
  | (k, v) :: r => costD k + costD v + 4 + costKv r
end
theorem dict_short (ts : List Str) : (dictText ts).length ≤ piled ts + 4 := by
  unfold dictText
  rw [strLen_append, strLen_append]
  have e1 : ((("{" : String) : Str)).length = 1 := rfl
  have e2 : ((("}" : String) : Str)).length = 1 := rfl
  have := join_short ts
  omega
mutual
theorem shown_shortD : ∀ d : PyData, d.showable = true → d.shown.length ≤ costD d
  | .none, _ => by
    rw [PyData.shown, costD]
    decide
  | .bool b, _ => by
    rw [PyData.shown, costD]
    cases b <;> decide
  | .int i, h => by
    rw [PyData.shown, costD]
    have h' : i.natAbs.log2 < 1920 := by simpa [PyData.showable] using h
    exact Nat.le_trans (int_text_len_1921 h') (by omega)
  | .str x, _ => by
    rw [PyData.shown, costD]
    exact Nat.le_refl _
  | .list xs, h => by
    rw [PyData.shown, costD]
    exact Nat.le_trans (list_short _) (Nat.add_le_add_right (showns_shortD xs (by simpa [PyData.showable] using h)) 4)
  | .tuple xs, h => by
    rw [PyData.shown, costD]
    exact Nat.le_trans (tuple_short _) (Nat.add_le_add_right (showns_shortD xs (by simpa [PyData.showable] using h)) 4)
  | .dict kvs, h => by
    rw [PyData.shown, costD]
    exact Nat.le_trans (dict_short _) (Nat.add_le_add_right (showkv_shortD kvs (by simpa [PyData.showable] using h)) 4)
theorem showns_shortD : ∀ xs : List PyData, PyData.showableAll xs = true → piled (PyData.shownAll xs) ≤ costDs xs
  | [], _ => by
    rw [PyData.shownAll, costDs, piled_nil]
    omega
  | x :: r, h => by
    rw [PyData.shownAll, costDs, piled_cons]
    simp only [PyData.showableAll, Bool.and_eq_true] at h
    have h3 := shown_shortD x h.1
    have h4 := showns_shortD r h.2
    omega
theorem showkv_shortD : ∀ xs : List (PyData × PyData), PyData.showableKv xs = true → piled (PyData.shownKv xs) ≤ costKv xs
  | [], _ => by
    rw [PyData.shownKv, costKv, piled_nil]
    omega
  | (k, v) :: r, h => by
    rw [PyData.shownKv, costKv, piled_cons]
    simp only [PyData.showableKv, Bool.and_eq_true] at h
    have h1 := shown_shortD k h.1.1
    have h3 := shown_shortD v h.1.2
    have h4 := showkv_shortD r h.2
    have e1 : (((": " : String) : Str)).length = 2 := rfl
    rw [strLen_append, strLen_append]
    omega
end
structure ShowsD (d : PyData) : Prop where
  able : d.showable = true
  low : d.depth ≤ 60
  short : d.shown.length ≤ sizeLine
theorem showsD_mk {d : PyData} (a : d.showable = true) (l : d.depth ≤ 60) (c : costD d ≤ 16000000) : ShowsD d := ⟨a, l, Nat.le_trans (shown_shortD d a) (Nat.le_trans c (by decide))⟩
end Own

namespace Own
open PySem PySem.Spec PyProof.Rows L2
/-! ### several except clauses, each with a name of its own or without one -/
abbrev Suit := Addr → Value → Option Addr → TS
/-- what is left to do behind a suite whose name goes -/
def goneEnds (i : Nat) (D : Ends) : Ends := { nx := fun τ G => D.nx (τ.set i none) G, rt := D.rt, bk := fun τ G => D.bk (τ.set i none) G, ct := fun τ G => D.ct (τ.set i none) G }
def suitBy (o : Option Nat) (ts : Suit) (a : Addr) (cls : Value) (d : Option Addr) (D : Ends) (τ : L2.St) (G : Hp) : Prop :=
  match o with
  | none => ts a cls d D τ G
  | some i => ts a cls d (goneEnds i D) (τ.set i (some (.ref a))) G
def wClauses (K : PySem.W.Frag) (Wout : WX) (D : Ends) : List (Value × Option Nat × Suit) → WX
  | [] => Wout
  | (c, o, ts) :: r => fun cls d τ G => ∃ b, PySem.W.exmOne K cls c = some b ∧ (b = true → ∀ a, G a = none → suitBy o ts a cls d D τ G) ∧ (b = false → wClauses K Wout D r cls d τ G)
inductive Clauses (X : Cx) : List ExceptHandler → List (Value × Option Nat × Suit) → Prop
  | nil : Clauses X [] []
  | cons {x : Str} {c : Value} {ts : Suit} {b₀ : Stmt} {rest : List Stmt} {p1 p2 : PySem.Pos} {hds : List ExceptHandler} {l : List (Value × Option Nat × Suit)} (hc : Names X x c)
      (hsu : ∀ (a : Addr) (oe : Obj) (cls : Value) (d : Option Addr) (pn : List (Addr × Obj)), Zc cls d oe → (∃ vs, oe.data = .fields vs) → PSs (X.suite a ((a, oe) :: pn)) (b₀ :: rest) (ts a cls d)) (r : Clauses X hds l) :
      Clauses X (.ExceptHandler (some (.Name x p1)) none (b₀ :: rest) p2 :: hds) ((c, none, ts) :: l)
  | as_ {x n : Str} {i : Nat} {c : Value} {ts : Suit} {b₀ : Stmt} {rest : List Stmt} {p1 p2 : PySem.Pos} {hds : List ExceptHandler} {l : List (Value × Option Nat × Suit)} (hN : X.N.Nodup) (hi : X.N[i]? = some n) (hln : X.env.kindOf n = some .local) (hc : Names X x c)
      (hsu : ∀ (a : Addr) (oe : Obj) (cls : Value) (d : Option Addr) (pn : List (Addr × Obj)), Zc cls d oe → (∃ vs, oe.data = .fields vs) → PSs (X.suite a ((a, oe) :: pn)) (b₀ :: rest) (ts a cls d)) (r : Clauses X hds l) :
      Clauses X (.ExceptHandler (some (.Name x p1)) (some n) (b₀ :: rest) p2 :: hds) ((c, some i, ts) :: l)
section
variable {X : Cx} {pins : List (Addr × Obj)} {D : Ends} {i : Nat} {n : Str} {q : PySem.Pos} {a : Addr} {o1 : Addr × Obj} {fl : Flow} {s6 : Shared} {M : Model}
/-- behind a suite with a name -/
theorem sp_gone (ok : X.Ok) (hN : X.N.Nodup) (hi : X.N[i]? = some n) (hln : X.env.kindOf n = some .local) (h : SP (X.suite a (o1 :: (X.pn ++ pins))) [] (goneEnds i D) fl s6) :
    wpAny M X.A (do bindName X.env n .none; unbindBehindTheSuite X.env n q) (fun _ s7 => SP X pins D fl s7) X.xe s6 := by
  cases fl with
  | ret u => exact let ⟨v6, τ, G, I6, r6, w6⟩ := h; gone_ok (I6.unsuite ok) hN hi hln fun s7 I7 => ⟨_, _, _, I7, r6, w6⟩
  | next => exact let ⟨τ, G, I6, w6⟩ := h; gone_ok (I6.unsuite ok) hN hi hln fun s7 I7 => ⟨_, _, I7, w6⟩
  | brk => exact let ⟨τ, G, I6, w6⟩ := h; gone_ok (I6.unsuite ok) hN hi hln fun s7 I7 => ⟨_, _, I7, w6⟩
  | cont => exact let ⟨τ, G, I6, w6⟩ := h; gone_ok (I6.unsuite ok) hN hi hln fun s7 I7 => ⟨_, _, I7, w6⟩
/-- behind a suite without a name -/
theorem sp_back (ok : X.Ok) (h : SP (X.suite a (o1 :: (X.pn ++ pins))) [] D fl s6) : SP X pins D fl s6 := by
  cases fl with
  | ret u => exact let ⟨v6, τ, G, I6, r6, w6⟩ := h; ⟨_, _, _, I6.unsuite ok, r6, w6⟩
  | next => exact let ⟨τ, G, I6, w6⟩ := h; ⟨_, _, I6.unsuite ok, w6⟩
  | brk => exact let ⟨τ, G, I6, w6⟩ := h; ⟨_, _, I6.unsuite ok, w6⟩
  | cont => exact let ⟨τ, G, I6, w6⟩ := h; ⟨_, _, I6.unsuite ok, w6⟩
end
theorem name_in {X : Cx} {x : Str} {c : Value} {p1 : PySem.Pos} {a : Addr} {pn : List (Addr × Obj)} {τ : L2.St} {G : Hp} {s : Shared} {Q E : Value → Shared → Prop} (hc : Names X x c) (S : Inv (X.suite a pn) [] τ G s) (q : Q c s) :
    wpAny (model X.prog X.w) (X.A.mark (some (.ref a))) (eval (.Name x p1) X.env) Q E s := by
  rcases hc with ⟨yg, yd, ym | ⟨ym, yv, yn⟩⟩
  · exact ld_glob (X := X.suite a pn) S yg ym q yd
  · exact ld_blt (X := X.suite a pn) S yg ym yv q yn yd
section
variable {X : Cx} {body : List Stmt} {h₀ : ExceptHandler} {hds : List ExceptHandler} {l : List (Value × Option Nat × Suit)} {pos : PySem.Pos} {tb : WX → TS} {Wout : WX}
theorem ps_try_clauses (hst : X.stack = X.env :: X.outer) (hfr : X.env.frame = some X.env.locals) (tk : Takes X Wout)
    (hb : ∀ (W : WX) (pn : List (Addr × Obj)) (xe : Value → Shared → Prop), Takes (X.tr pn xe) W → PassesOwn (model X.prog X.w) X.A X.env xe → PSs (X.tr pn xe) body (tb W))
    (hh : Clauses X (h₀ :: hds) l) : PS X (.Try body (h₀ :: hds) [] [] pos) (fun D τ G => tb (wClauses X.K Wout D l) D τ G) := by
  refine ⟨fun pins s τ G D I0 h => ?_⟩
  have okX := I0.ok
  have fA : X.A.frames = some (X.env :: X.outer) := by rw [okX.frames, hst]
  refine wpAny_Try_except ?_
  have run := (hb (wClauses X.K Wout D l) (X.pn ++ pins) (fun e s₁ => wpAny (model X.prog X.w) X.A (noteFrame e X.env) (fun _ s₂ => wpAny (model X.prog X.w) X.A (setFlight e none) (fun _ s₃ =>
    wpAny (model X.prog X.w) X.A (handleBy e X.env (h₀ :: hds)) (SP X pins D) X.xe s₃) X.xe s₂) X.xe s₁) (fun u s' caught => ?_) PassesOwn.looking).run [] s τ G D (I0.toTry _) h
  · refine wpAny_mono run (fun fl s1 hsp => ?_) (fun _ _ z => z)
    cases fl with
    | next => exact let ⟨τ1, G1, I1, w1⟩ := hsp; wpAny_execs_nil ⟨τ1, G1, I1.ofTry okX, w1⟩
    | ret u => exact let ⟨v1, τ1, G1, I1, r1, w1⟩ := hsp; ⟨v1, τ1, G1, I1.ofTry okX, r1, w1⟩
    | brk => exact let ⟨τ1, G1, I1, w1⟩ := hsp; ⟨τ1, G1, I1.ofTry okX, w1⟩
    | cont => exact let ⟨τ1, G1, I1, w1⟩ := hsp; ⟨τ1, G1, I1.ofTry okX, w1⟩
  obtain ⟨a, B, sI, pins', τ1, G1, cls, d, rfl, Jt, nb, up, sky, na, os, ag, w⟩ := caught
  have J := Jt.ofTry (pins := pins) okX
  have sky1 : Sky B (X.env :: X.outer) a (Zc cls d) X.env.locals s'.heap := by rw [← hst]; exact sky
  show wpAny (model X.prog X.w) X.A (noteFrame (.ref a) X.env) _ _ _
  refine Sky.land Zc.steady fA hfr sky1 fun h3 fl3 up3 => ?_
  have J3 := J.landed (s' := { s' with heap := h3 }) nb fl3.1 (up.trans up3) os ag
  obtain ⟨oe3, vs3, he3, hz3, hd3⟩ := fl3.there
  have nIn : a ∉ frs (X.env :: X.outer) := fun hm => by
    obtain ⟨_, o', e', hnf⟩ := fl3.2.2.1.mem hm
    rw [he3] at e'
    cases e'
    exact hnf _ hd3
  have nL : a ≠ X.env.locals := fun z => nIn (List.mem_filterMap.mpr ⟨X.env, List.mem_cons_self, by rw [hfr, z]⟩)
  have nF : a ∉ X.fs := fun hm => let ⟨e, he, q⟩ := List.mem_filterMap.mp hm; nIn (List.mem_filterMap.mpr ⟨e, List.mem_cons_of_mem _ he, q⟩)
  have S3 := J3.suite he3 hd3 na nL nF
  have looks : PySem.W.Looks (model X.prog X.w) h3 (typeOf (.ref a)) cls := fun A Q E s k q => wpAny_typeOf_ref (k _ _ he3) (by rw [hz3.1]; exact q)
  have go : ∀ {hds' : List ExceptHandler} {l' : List (Value × Option Nat × Suit)}, Clauses X hds' l' → wClauses X.K Wout D l' cls d τ1 G1 → wpAny (model X.prog X.w) X.A (handleBy (.ref a) X.env hds') (SP X pins D) X.xe { s' with heap := h3 } := by
    intro hds' l' hk
    induction hk with
    | nil =>
      intro w
      refine wpAny_handleBy_nil ?_
      obtain ⟨k1, k2, k3, oe, vs, T, oT, ts', he, hz, hd, h1, hr⟩ := id fl3
      unfold PySem.passOn
      refine wpAny_bind (wpAny_field he hd h1 ?_)
      rw [if_neg (show ¬ ((Value.ref T == Value.none) = true) from by simp)]
      have out : wpAny (model X.prog X.w) X.A (setFlight (.ref a) X.env.frame) (fun _ s4 => wpAny (model X.prog X.w) X.A (throw (.ref a) : Sem Flow) (SP X pins D) X.xe s4) X.xe { s' with heap := h3 } := by
        rw [hfr]
        refine HandSPX.setFlight_upZ fl3 fun h4 hh4 up4 => wpAny_throw (tk _ _ ?_)
        exact ⟨a, B, sI, pins, τ1, G1, cls, d, rfl, J, nb, (up.trans up3).trans up4, .inr (.inr (by rw [hst]; exact hh4)), na, os, ag, w⟩
      first
        | exact wpAny_bind (wpAny_pure (wpAny_bind out))
        | exact wpAny_bind out
    | @cons x c ts b₀ rest p1 p2 hds2 l2 hc hsu r ih =>
      rintro ⟨b, hb1, hyes, hno⟩
      refine wpAny_handleBy_cons (codeAny_handlers_test ?_) (fun q => nomatch q)
      refine name_in hc S3 ((PySem.W.exm_one (M := model X.prog X.w) (J3.kIn) looks hb1).here ?_)
      cases b with
      | false => exact ih (hno rfl)
      | true =>
        refine codeAny_handlers_suite (HandSPX.lands_againZ fl3 fun h4 fl4 up4 => ?_)
        have J4 := J.landed (s' := { s' with heap := h4 }) nb fl4.1 ((up.trans up3).trans up4) os ag
        obtain ⟨oe4, vs4, he4, hz4, hd4⟩ := fl4.there
        exact wpAny_mono ((hsu a oe4 cls d (X.pn ++ pins) hz4 ⟨_, hd4⟩).run [] _ _ G1 _ (J4.suite he4 hd4 na nL nF) (hyes rfl a na)) (fun _ _ hsp => sp_back okX hsp) (fun _ _ z => z.elim)
    | @as_ x n i c ts b₀ rest p1 p2 hds2 l2 hN hi hln hc hsu r ih =>
      rintro ⟨b, hb1, hyes, hno⟩
      refine wpAny_handleBy_cons (codeAny_handlers_test ?_) (fun q => nomatch q)
      refine name_in hc S3 ((PySem.W.exm_one (M := model X.prog X.w) (J3.kIn) looks hb1).here ?_)
      cases b with
      | false => exact ih (hno rfl)
      | true =>
        refine codeAny_handlers_suite_as (HandSPX.lands_againZ fl3 fun h4 fl4 up4 => ?_)
        have J4 := J.landed (s' := { s' with heap := h4 }) nb fl4.1 ((up.trans up3).trans up4) os ag
        obtain ⟨oe4, vs4, he4, hz4, hd4⟩ := fl4.there
        refine store_ok (X := X.suite a ((a, oe4) :: (X.pn ++ pins))) (v := .ref a) (J4.suite he4 hd4 na nL nF) hN hi (.inl hln) rfl (fun s5 S5 => ?_) (.inr hln)
        exact wpAny_mono ((hsu a oe4 cls d (X.pn ++ pins) hz4 ⟨_, hd4⟩).run [] s5 _ G1 _ S5 (hyes rfl a na)) (fun _ _ hsp => sp_gone okX hN hi hln hsp) (fun _ _ z => z.elim)
  exact go hh w
end
/-- whether a class is under another, looked up from an error's class -/
theorem exm_mkb {K : PySem.W.Frag} {S D : Addr} {b : Bool} (h1 : PySem.W.subIn K (.ref D) (.type "BaseException") = some true) (h2 : PySem.W.isClsIn K D = true) (h3 : PySem.W.typeIn K (.ref D) = some (.type "type")) (h4 : PySem.W.subIn K (.ref S) (.ref D) = some b) : PySem.W.exmOne K (.ref S) (.ref D) = some b := by
  have g1 : (PySem.W.subIn K (.ref D) (.type "BaseException") == some true) = true := by
    rw [h1]
    rfl
  have g2 : ((PySem.W.clsIn K D).isSome && PySem.W.typeIn K (.ref D) == some (.type "type")) = true := by
    have h2' : (PySem.W.clsIn K D).isSome = true := h2
    rw [h2', h3]
    rfl
  unfold PySem.W.exmOne PySem.W.kitCls
  simp only [g1, g2, if_true]
  exact h4
end Own

namespace Own
open PySem PySem.Spec PyProof.Rows L2
/-! ### values of any kind, as data -/
/-! ### addresses whose objects may change; what else stands stays -/
def KeepX (X : Addr → Prop) (H H' : Hp) : Prop := ∀ a o, ¬ X a → H a = some o → H' a = some o
def HeldX (X : Addr → Prop) (H : Hp) : Prop := ∀ a, X a → ∃ o, H a = some o ∧ ∀ xs, o ≠ .tup xs
/-- X and one more -/
def more (X : Addr → Prop) (D : Addr) : Addr → Prop := fun a => X a ∨ a = D
theorem HeldX.same {X : Addr → Prop} {H H' : Hp} (B : HeldX X H) (e : Same H H') : HeldX X H' := fun a ha => let ⟨o, h1, h2⟩ := B a ha; ⟨o, e _ _ h1, h2⟩
theorem HeldX.off {X : Addr → Prop} {H : Hp} {p : Addr} (B : HeldX X H) (h : H p = none) : ¬ X p := fun hp => by
  obtain ⟨o, h1, _⟩ := B p hp
  rw [h] at h1
  cases h1
theorem HeldX.more {X : Addr → Prop} {H : Hp} {D : Addr} {xs : List V} (B : HeldX X H) (h : H D = some (.lst xs)) : HeldX (more X D) H := fun a ha => by
  rcases ha with ha | rfl
  · exact B a ha
  · exact ⟨_, h, fun xs z => by cases z⟩
theorem KeepX.kt {X : Addr → Prop} {H H' : Hp} (B : HeldX X H) (k : KeepX X H H') : KT H H' := fun a xs h => k a _ (fun ha => by
  obtain ⟨o, h1, n1⟩ := B a ha
  rw [h1] at h
  exact n1 _ (Option.some.inj h)) h
theorem KeepX.same {X : Addr → Prop} {H H' : Hp} (e : Same H H') : KeepX X H H' := fun a o _ h => e a o h
abbrev two (b g : Addr) : Addr → Prop := fun a => a = b ∨ a = g
theorem KeepX.of2 {b g : Addr} {H H' : Hp} (k : ∀ a o, a ≠ b → a ≠ g → H a = some o → H' a = some o) : KeepX (two b g) H H' := fun a o n h => k a o (fun z => n (.inl z)) (fun z => n (.inr z)) h
theorem HeldX.of2 {b g : Addr} {H : Hp} {u1 u2 : HO} (h1 : H b = some u1) (n1 : ∀ xs, u1 ≠ .tup xs) (h2 : H g = some u2) (n2 : ∀ xs, u2 ≠ .tup xs) : HeldX (two b g) H := fun a ha => by
  rcases ha with rfl | rfl
  · exact ⟨_, h1, n1⟩
  · exact ⟨_, h2, n2⟩
mutual
inductive AtX (X : Addr → Prop) (H : Hp) : V → PyData → Prop
  | non : AtX X H .non .none
  | bl (x : Bool) : AtX X H (.bl x) (.bool x)
  | int (i : Int) : AtX X H (.int i) (.int i)
  | str (x : Str) : AtX X H (.str x) (.str x)
  | lst {a : Addr} {xs : List V} {ds : List PyData} : a ≠ sysModules → ¬ X a → H a = some (.lst xs) → AtXs X H xs ds → AtX X H (.ref a) (.list ds)
  | tup {a : Addr} {xs : List V} {ds : List PyData} : H a = some (.tup xs) → AtXs X H xs ds → AtX X H (.ref a) (.tuple ds)
  | dct {a : Addr} {kvs : List (Key × V)} {ds : List PyData} : ¬ X a → H a = some (.dK kvs) → AtXs X H (kvs.map (·.2)) ds → AtX X H (.ref a) (.dict ((kvs.map fun p => keyD p.1).zip ds))
inductive AtXs (X : Addr → Prop) (H : Hp) : List V → List PyData → Prop
  | nil : AtXs X H [] []
  | cons {v : V} {vs : List V} {d : PyData} {ds : List PyData} : AtX X H v d → AtXs X H vs ds → AtXs X H (v :: vs) (d :: ds)
end
section
variable {X : Addr → Prop} {H H' : Hp}
mutual
theorem AtX.dp {K : PySem.W.Frag} : ∀ {v : V} {d : PyData}, AtX X H v d → DpD K H v d
  | _, _, .non => .non
  | _, _, .bl x => .bl x
  | _, _, .int i => .int i
  | _, _, .str x => .str x
  | _, _, .lst n _ h t => .lst n (SqL.of h) t.dp
  | _, _, .tup h t => .tup (SqT.of h) t.dp
  | _, _, .dct _ h t => .dct h t.dp
theorem AtXs.dp {K : PySem.W.Frag} : ∀ {vs : List V} {ds : List PyData}, AtXs X H vs ds → DpDAll K H vs ds
  | _, _, .nil => .nil
  | _, _, .cons h t => .cons h.dp t.dp
end
mutual
theorem AtX.mono (e : KeepX X H H') (kt : KT H H') : ∀ {v : V} {d : PyData}, AtX X H v d → AtX X H' v d
  | _, _, .non => .non
  | _, _, .bl x => .bl x
  | _, _, .int i => .int i
  | _, _, .str x => .str x
  | _, _, .lst n n1 h t => .lst n n1 (e _ _ n1 h) (t.mono e kt)
  | _, _, .tup h t => .tup (kt _ _ h) (t.mono e kt)
  | _, _, .dct n1 h t => .dct n1 (e _ _ n1 h) (t.mono e kt)
theorem AtXs.mono (e : KeepX X H H') (kt : KT H H') : ∀ {vs : List V} {ds : List PyData}, AtXs X H vs ds → AtXs X H' vs ds
  | _, _, .nil => .nil
  | _, _, .cons h t => .cons (h.mono e kt) (t.mono e kt)
end
theorem AtX.same (e : Same H H') {v : V} {d : PyData} (h : AtX X H v d) : AtX X H' v d := h.mono (.same e) (KT.of e)
theorem AtXs.same (e : Same H H') {vs : List V} {ds : List PyData} (h : AtXs X H vs ds) : AtXs X H' vs ds := h.mono (.same e) (KT.of e)
theorem AtX.keep (B : HeldX X H) (k : KeepX X H H') {v : V} {d : PyData} (h : AtX X H v d) : AtX X H' v d := h.mono k (k.kt B)
theorem AtXs.keep (B : HeldX X H) (k : KeepX X H H') {vs : List V} {ds : List PyData} (h : AtXs X H vs ds) : AtXs X H' vs ds := h.mono k (k.kt B)
mutual
theorem AtX.add {D : Addr} (hD : H D = none) : ∀ {v : V} {d : PyData}, AtX X H v d → AtX (more X D) H v d
  | _, _, .non => .non
  | _, _, .bl x => .bl x
  | _, _, .int i => .int i
  | _, _, .str x => .str x
  | _, _, .lst n n1 h t => .lst n (fun z => z.elim n1 fun z => by rw [z, hD] at h; cases h) h (t.add hD)
  | _, _, .tup h t => .tup h (t.add hD)
  | _, _, .dct n1 h t => .dct (fun z => z.elim n1 fun z => by rw [z, hD] at h; cases h) h (t.add hD)
theorem AtXs.add {D : Addr} (hD : H D = none) : ∀ {vs : List V} {ds : List PyData}, AtXs X H vs ds → AtXs (more X D) H vs ds
  | _, _, .nil => .nil
  | _, _, .cons h t => .cons (h.add hD) (t.add hD)
end
mutual
theorem AtX.sub {Y : Addr → Prop} (hY : ∀ a, X a → Y a) : ∀ {v : V} {d : PyData}, AtX Y H v d → AtX X H v d
  | _, _, .non => .non
  | _, _, .bl x => .bl x
  | _, _, .int i => .int i
  | _, _, .str x => .str x
  | _, _, .lst n n1 h t => .lst n (fun z => n1 (hY _ z)) h (t.sub hY)
  | _, _, .tup h t => .tup h (t.sub hY)
  | _, _, .dct n1 h t => .dct (fun z => n1 (hY _ z)) h (t.sub hY)
theorem AtXs.sub {Y : Addr → Prop} (hY : ∀ a, X a → Y a) : ∀ {vs : List V} {ds : List PyData}, AtXs Y H vs ds → AtXs X H vs ds
  | _, _, .nil => .nil
  | _, _, .cons h t => .cons (h.sub hY) (t.sub hY)
end
theorem AtXs.length : ∀ {vs : List V} {ds : List PyData}, AtXs X H vs ds → vs.length = ds.length
  | _, _, .nil => rfl
  | _, _, .cons _ t => by rw [List.length_cons, List.length_cons, t.length]
theorem AtXs.get : ∀ {vs : List V} {ds : List PyData} {i : Nat} {v : V}, AtXs X H vs ds → vs[i]? = some v → ∃ d, ds[i]? = some d ∧ AtX X H v d
  | _, _, _, _, .nil, h => by simp at h
  | _, _, 0, v, .cons (d := d) h t, e => by
    simp at e
    subst e
    exact ⟨d, rfl, h⟩
  | _, _, i + 1, v, .cons h t, e => by
    obtain ⟨d, h1, h2⟩ := t.get (i := i) (v := v) (by simpa using e)
    exact ⟨d, by simpa using h1, h2⟩
theorem AtXs.append : ∀ {vs ws : List V} {ds es : List PyData}, AtXs X H vs ds → AtXs X H ws es → AtXs X H (vs ++ ws) (ds ++ es)
  | _, _, _, _, .nil, h => h
  | _, _, _, _, .cons x t, h => .cons x (t.append h)
abbrev AtD (b g : Addr) := AtX (two b g)
abbrev AtDs (b g : Addr) := AtXs (two b g)
def tyN : PyData → String
  | .none => "NoneType"
  | .bool _ => "bool"
  | .int _ => "int"
  | .str _ => "str"
  | .list _ => "list"
  | .tuple _ => "tuple"
  | .dict _ => "dict"
theorem AtX.ty {K : PySem.W.Frag} : ∀ {v : V} {d : PyData}, AtX X H v d → TyX K H v (.type (tyN d))
  | _, _, .non => .base .non
  | _, _, .bl x => .base (.bl x)
  | _, _, .int i => .base (.int i)
  | _, _, .str x => .base (.str x)
  | _, _, .lst _ _ h _ => .base (.lst h)
  | _, _, .tup h _ => .base (.tup h)
  | _, _, .dct _ h _ => .base (.dK h)
end
def isTup : PyData → Bool
  | .tuple _ => true
  | _ => false
def isInt : PyData → Bool
  | .int _ => true
  | _ => false
def isBool : PyData → Bool
  | .bool _ => true
  | _ => false
theorem kit_tup : ∀ d : PyData, kitB (tyN d) "tuple" = some (isTup d)
  | .none => (show kitB "NoneType" "tuple" = some false by decide +kernel)
  | .bool _ => (show kitB "bool" "tuple" = some false by decide +kernel)
  | .int _ => (show kitB "int" "tuple" = some false by decide +kernel)
  | .str _ => (show kitB "str" "tuple" = some false by decide +kernel)
  | .list _ => (show kitB "list" "tuple" = some false by decide +kernel)
  | .tuple _ => (show kitB "tuple" "tuple" = some true by decide +kernel)
  | .dict _ => (show kitB "dict" "tuple" = some false by decide +kernel)
theorem kit_int : ∀ d : PyData, kitB (tyN d) "int" = some (isInt d || isBool d)
  | .none => (show kitB "NoneType" "int" = some false by decide +kernel)
  | .bool _ => (show kitB "bool" "int" = some true by decide +kernel)
  | .int _ => (show kitB "int" "int" = some true by decide +kernel)
  | .str _ => (show kitB "str" "int" = some false by decide +kernel)
  | .list _ => (show kitB "list" "int" = some false by decide +kernel)
  | .tuple _ => (show kitB "tuple" "int" = some false by decide +kernel)
  | .dict _ => (show kitB "dict" "int" = some false by decide +kernel)
theorem kit_bool : ∀ d : PyData, kitB (tyN d) "bool" = some (isBool d)
  | .none => (show kitB "NoneType" "bool" = some false by decide +kernel)
  | .bool _ => (show kitB "bool" "bool" = some true by decide +kernel)
  | .int _ => (show kitB "int" "bool" = some false by decide +kernel)
  | .str _ => (show kitB "str" "bool" = some false by decide +kernel)
  | .list _ => (show kitB "list" "bool" = some false by decide +kernel)
  | .tuple _ => (show kitB "tuple" "bool" = some false by decide +kernel)
  | .dict _ => (show kitB "dict" "bool" = some false by decide +kernel)
theorem AtXs.take {X : Addr → Prop} {H : Hp} : ∀ {vs : List V} {ds : List PyData} (n : Nat), AtXs X H vs ds → AtXs X H (vs.take n) (ds.take n)
  | _, _, 0, _ => by rw [List.take_zero, List.take_zero]; exact .nil
  | _, _, n + 1, .nil => by rw [List.take_nil, List.take_nil]; exact .nil
  | _, _, n + 1, .cons h t => .cons h (t.take n)
theorem AtXs.drop {X : Addr → Prop} {H : Hp} : ∀ {vs : List V} {ds : List PyData} (n : Nat), AtXs X H vs ds → AtXs X H (vs.drop n) (ds.drop n)
  | _, _, 0, h => h
  | _, _, n + 1, .nil => by rw [List.drop_nil, List.drop_nil]; exact .nil
  | _, _, n + 1, .cons h t => t.drop n
theorem ats_ints {X : Addr → Prop} {H : Hp} : ∀ L : List Int, AtXs X H (L.map V.int) (L.map PyData.int)
  | [] => .nil
  | x :: L => .cons (.int x) (ats_ints L)
theorem ats_back {X : Addr → Prop} {H : Hp} : ∀ {ws : List V} {L : List Int}, AtXs X H ws (L.map PyData.int) → ws = L.map V.int
  | [], [], _ => rfl
  | _ :: _, x :: L, .cons h t => by
    cases h
    rw [ats_back t]
    rfl
/-! ### values that are small enough to be shown -/
def Fit (X : Addr → Prop) (k c : Nat) (H : Hp) (v : V) : Prop := ∃ d, AtX X H v d ∧ d.showable = true ∧ d.depth ≤ k ∧ costD d ≤ c
def Fits (X : Addr → Prop) (k c : Nat) (H : Hp) (vs : List V) : Prop := ∀ v ∈ vs, Fit X k c H v
section
variable {X : Addr → Prop} {k c k' c' : Nat} {H H' : Hp} {v : V} {vs ws : List V}
theorem Fit.same (h : Fit X k c H v) (e : Same H H') : Fit X k c H' v := let ⟨d, h1, h2⟩ := h; ⟨d, h1.same e, h2⟩
theorem Fit.keep (h : Fit X k c H v) (B : HeldX X H) (e : KeepX X H H') : Fit X k c H' v := let ⟨d, h1, h2⟩ := h; ⟨d, h1.keep B e, h2⟩
theorem Fit.add {D : Addr} (h : Fit X k c H v) (hD : H D = none) : Fit (more X D) k c H v := let ⟨d, h1, h2⟩ := h; ⟨d, h1.add hD, h2⟩
theorem Fit.sub {Y : Addr → Prop} (h : Fit Y k c H v) (hY : ∀ a, X a → Y a) : Fit X k c H v := let ⟨d, h1, h2⟩ := h; ⟨d, h1.sub hY, h2⟩
theorem Fit.up (h : Fit X k c H v) (hk : k ≤ k') (hc : c ≤ c') : Fit X k' c' H v := let ⟨d, h1, h2, h3, h4⟩ := h; ⟨d, h1, h2, Nat.le_trans h3 hk, Nat.le_trans h4 hc⟩
theorem Fits.same (h : Fits X k c H vs) (e : Same H H') : Fits X k c H' vs := fun v hv => (h v hv).same e
theorem Fits.keep (h : Fits X k c H vs) (B : HeldX X H) (e : KeepX X H H') : Fits X k c H' vs := fun v hv => (h v hv).keep B e
theorem Fits.up (h : Fits X k c H vs) (hk : k ≤ k') (hc : c ≤ c') : Fits X k' c' H vs := fun v hv => (h v hv).up hk hc
theorem Fits.nil : Fits X k c H [] := fun v hv => nomatch hv
theorem Fits.cons (h : Fit X k c H v) (t : Fits X k c H vs) : Fits X k c H (v :: vs) := fun x hx => by
  rcases List.mem_cons.mp hx with rfl | hx
  · exact h
  · exact t x hx
theorem Fits.append (h : Fits X k c H vs) (t : Fits X k c H ws) : Fits X k c H (vs ++ ws) := fun x hx => (List.mem_append.mp hx).elim (h x) (t x)
theorem Fits.cut (h : Fits X k c H vs) (lo hi : Option Int) : Fits X k c H (cutV vs lo hi) := fun x hx => by
  unfold cutV at hx
  exact h x (List.mem_of_mem_drop (List.mem_of_mem_take hx))
theorem Fits.data : ∀ {vs : List V}, Fits X k c H vs → ∃ ds, AtXs X H vs ds ∧ PyData.showableAll ds = true ∧ PyData.depthAll ds ≤ k ∧ costDs ds ≤ vs.length * (c + 2)
  | [], _ => ⟨[], .nil, rfl, by simp [PyData.depthAll], by simp [costDs]⟩
  | v :: vs, h => by
    obtain ⟨d, a1, a2, a3, a4⟩ := h v List.mem_cons_self
    obtain ⟨ds, b1, b2, b3, b4⟩ := Fits.data (vs := vs) (fun x hx => h x (List.mem_cons_of_mem _ hx))
    refine ⟨d :: ds, .cons a1 b1, by rw [PyData.showableAll, a2, b2]; rfl, ?_, ?_⟩
    · rw [PyData.depthAll]
      omega
    · rw [costDs, List.length_cons, Nat.succ_mul]
      omega
theorem Fits.tup {a : Addr} (h : Fits X k c H vs) (ha : H a = some (.tup vs)) (hk : k + 1 ≤ k') (hc : vs.length * (c + 2) + 4 ≤ c') : Fit X k' c' H (.ref a) := by
  obtain ⟨ds, b1, b2, b3, b4⟩ := h.data
  refine ⟨.tuple ds, .tup ha b1, by rw [PyData.showable]; exact b2, ?_, ?_⟩
  · rw [PyData.depth]
    omega
  · rw [costD]
    omega
theorem Fits.lst {a : Addr} (h : Fits X k c H vs) (ha : H a = some (.lst vs)) (n1 : a ≠ sysModules) (n2 : ¬ X a) (hk : k + 1 ≤ k') (hc : vs.length * (c + 2) + 4 ≤ c') : Fit X k' c' H (.ref a) := by
  obtain ⟨ds, b1, b2, b3, b4⟩ := h.data
  refine ⟨.list ds, .lst n1 n2 ha b1, by rw [PyData.showable]; exact b2, ?_, ?_⟩
  · rw [PyData.depth]
    omega
  · rw [costD]
    omega
theorem Fit.int {i : Int} (h : i.natAbs.log2 < 1920) (hc : 1922 ≤ c) : Fit X k c H (.int i) := ⟨.int i, .int i, by simpa [PyData.showable] using h, by simp [PyData.depth], by rw [costD]; exact hc⟩
theorem Fit.small {i : Int} (h : -(2 ^ 200) < i ∧ i < 2 ^ 200) (hc : 1922 ≤ c) : Fit X k c H (.int i) := .int (by
  by_cases h0 : i.natAbs = 0
  · rw [h0]
    decide
  · have : i.natAbs < 2 ^ 200 := by omega
    have := (Nat.log2_lt h0).mpr this
    omega) hc
theorem Fit.bl {x : Bool} (hc : 5 ≤ c) : Fit X k c H (.bl x) := ⟨.bool x, .bl x, by simp [PyData.showable], by simp [PyData.depth], by rw [costD]; exact hc⟩
theorem Fit.non (hc : 4 ≤ c) : Fit X k c H .non := ⟨.none, .non, by simp [PyData.showable], by simp [PyData.depth], by rw [costD]; exact hc⟩
theorem Fit.str {x : Str} (hc : (reprText x).length ≤ c) : Fit X k c H (.str x) := ⟨.str x, .str x, by simp [PyData.showable], by simp [PyData.depth], by rw [costD]; exact hc⟩
theorem Fit.dnil {a : Addr} (ha : H a = some (.dK [])) (n2 : ¬ X a) (hk : 1 ≤ k) (hc : 4 ≤ c) : Fit X k c H (.ref a) := by
  refine ⟨.dict [], .dct (kvs := []) (ds := []) n2 ha .nil, by simp [PyData.showable, PyData.showableKv], by simp [PyData.depth, PyData.depthKv]; omega, ?_⟩
  rw [costD, costKv]
  omega
theorem Fit.ints {a : Addr} {L : List Int} (ha : H a = some (.tup (L.map V.int))) (hL : ∀ x ∈ L, 0 ≤ x ∧ x < 100) (hk : 1 ≤ k) (hc : L.length * 1924 + 4 ≤ c) : Fit X k c H (.ref a) := by
  refine Fits.tup (k := 0) (c := 1922) ?_ ha (by omega) (by rw [List.length_map]; exact hc)
  intro v hv
  obtain ⟨x, hx, rfl⟩ := List.mem_map.mp hv
  have := hL x hx
  exact .small (by omega) (Nat.le_refl _)
end

/-! ### displays: what is built of small values is small -/
section
variable (X : Addr → Prop)
/-- an expression that gives a small value and adds to the heap alone -/
def Mk (k c : Nat) (te : TE) (σ : L2.St) (H : Hp) : Prop := ∀ (H1 : Hp) (Q : VK), Same H H1 → HeldX X H1 → (∀ v H2, Same H1 H2 → Fit X k c H2 v → Q v H2) → te σ H1 Q
def MkA (k c n : Nat) (ta : TA) (σ : L2.St) (H : Hp) : Prop := ∀ (H1 : Hp) (Q : List V → Hp → Prop), Same H H1 → HeldX X H1 → (∀ vs H2, Same H1 H2 → Fits X k c H2 vs → vs.length = n → Q vs H2) → ta σ H1 Q
/-- .. a tuple of at most n small values -/
def MkT (k c n : Nat) (te : TE) (σ : L2.St) (H : Hp) : Prop := ∀ (H1 : Hp) (Q : VK), Same H H1 → HeldX X H1 → (∀ p vs H2, Same H1 H2 → H2 p = some (.tup vs) → Fits X k c H2 vs → vs.length ≤ n → Q (.ref p) H2) → te σ H1 Q
/-- .. a list of n small values -/
def MkL (k c n : Nat) (te : TE) (σ : L2.St) (H : Hp) : Prop := ∀ (H1 : Hp) (Q : VK), Same H H1 → HeldX X H1 → (∀ p vs H2, Same H1 H2 → H2 p = some (.lst vs) → ¬ X p → Fits X k c H2 vs → vs.length = n → Q (.ref p) H2) → te σ H1 Q
/-- .. a whole number -/
def MkI (te : TE) (σ : L2.St) (H : Hp) : Prop := ∀ (H1 : Hp) (Q : VK), Same H H1 → HeldX X H1 → (∀ i H2, Same H1 H2 → Q (.int i) H2) → te σ H1 Q
def MkO (tp : TO) (σ : L2.St) (H : Hp) : Prop := ∀ (H1 : Hp) (Q : Option Int → Hp → Prop), Same H H1 → HeldX X H1 → (∀ o H2, Same H1 H2 → Q o H2) → tp σ H1 Q
end
section
variable {X : Addr → Prop} {k c k' c' n m : Nat} {σ : L2.St} {H : Hp} {te tf : TE} {ta : TA} {v : V} {i : Nat}
theorem mk_c (h : ∀ H, Fit X k c H v) : Mk X k c (tC v) σ H := fun H1 Q _ _ q => q _ _ (Same.refl _) (h H1)
theorem mk_v (e : σ[i]? = some (some v)) (h : Fit X k c H v) : Mk X k c (tVar i) σ H := fun H1 Q s _ q => ⟨_, e, q _ _ (Same.refl _) (h.same s)⟩
theorem mk_neg {i : Int} (h : ∀ H, Fit X k c H (.int (-i))) : Mk X k c (tUn (rU fun i => V.int (-i)) (tC (.int i))) σ H := fun H1 Q _ _ q => ⟨_, rfl, q _ _ (Same.refl _) (h H1)⟩
theorem mk_pow {i j : Int} (h : CPow i j) (hf : ∀ H, Fit X k c H (.int (i ^ j.toNat))) : Mk X k c (tOp (rI CPow fun i j => V.int (i ^ j.toNat)) (tC (.int i)) (tC (.int j))) σ H := fun H1 Q _ _ q => ⟨_, _, rfl, rfl, h, q _ _ (Same.refl _) (hf H1)⟩
theorem mkA_nil : MkA X k c 0 tNil σ H := fun H1 Q _ _ q => q _ _ (Same.refl _) .nil rfl
theorem mkA_cons (h : Mk X k c te σ H) (t : MkA X k c n ta σ H) : MkA X k c (n + 1) (tCons te ta) σ H := fun H1 Q s B q =>
  h H1 _ s B fun v H2 e1 f1 => t H2 _ (s.trans e1) (B.same e1) fun vs H3 e2 f2 hl => q _ _ (e1.trans e2) (.cons (f1.same e2) f2) (by rw [List.length_cons, hl])
theorem Mk.up (h : Mk X k c te σ H) (hk : k ≤ k') (hc : c ≤ c') : Mk X k' c' te σ H := fun H1 Q s B q => h H1 Q s B fun v H2 e f => q v H2 e (f.up hk hc)
theorem mkT_v {p : Addr} {vs : List V} (e : σ[i]? = some (some (.ref p))) (hp : H p = some (.tup vs)) (h : Fits X k c H vs) (hl : vs.length ≤ n) : MkT X k c n (tVar i) σ H := fun H1 Q s _ q => ⟨_, e, q _ _ _ (Same.refl _) (s _ _ hp) (h.same s) hl⟩
theorem mkT_tup (h : MkA X k c n ta σ H) (hn : n ≤ 1000) : MkT X k c n (tTup ta) σ H := fun H1 Q s B q => h H1 _ s B fun vs H2 e f hl =>
  ⟨Nat.le_trans (by omega : vs.length ≤ 1000) (by decide), fun p hp => q p vs _ (e.trans (same_upd _ hp)) upd_same (f.same (same_upd _ hp)) (Nat.le_of_eq hl)⟩
theorem mkT_cat {K : PySem.W.Frag} (h : MkT X k c n te σ H) (t : MkT X k c m tf σ H) (hn : n + m ≤ 1000) : MkT X k c (n + m) (tOp (rCatA K) te tf) σ H := fun H1 Q s B q =>
  h H1 _ s B fun p vs H2 e1 hp f1 hl1 => t H2 _ (s.trans e1) (B.same e1) fun p' ws H3 e2 hp' f2 hl2 => by
    refine ⟨p, p', vs, ws, rfl, rfl, SqT.of (e2 _ _ hp), SqT.of hp', Nat.le_trans (by omega : vs.length + ws.length ≤ 1000) (by decide), fun hx => ?_, fun _ hy => ?_, fun _ _ p3 hp3 => ?_⟩
    · exact q _ _ _ (e1.trans e2) hp' f2 (by omega)
    · exact q _ _ _ (e1.trans e2) (e2 _ _ hp) (f1.same e2) (by omega)
    · have e3 := same_upd (.tup (vs ++ ws)) hp3
      exact q _ _ _ ((e1.trans e2).trans e3) upd_same (((f1.same e2).append f2).same e3) (by rw [List.length_append]; omega)
theorem mkO_none : MkO X tNoPart σ H := fun H1 Q _ _ q => q _ _ (Same.refl _)
theorem mkO_some (h : MkI X te σ H) : MkO X (tPart te) σ H := fun H1 Q s B q => h H1 _ s B fun i H2 e => ⟨_, rfl, q _ _ e⟩
theorem mkI_c {i : Int} : MkI X (tC (.int i)) σ H := fun H1 Q _ _ q => q _ _ (Same.refl _)
theorem mkI_v {z : Int} (e : σ[i]? = some (some (.int z))) : MkI X (tVar i) σ H := fun H1 Q _ _ q => ⟨_, e, q _ _ (Same.refl _)⟩
theorem mkI_neg (h : MkI X te σ H) : MkI X (tUn (rU fun i => V.int (-i)) te) σ H := fun H1 Q s B q => h H1 _ s B fun i H2 e => ⟨_, rfl, q _ _ e⟩
theorem mkI_add (h : MkI X te σ H) (t : MkI X tf σ H) : MkI X (tOp (rI0 fun i j => V.int (i + j)) te tf) σ H := fun H1 Q s B q =>
  h H1 _ s B fun i H2 e1 => t H2 _ (s.trans e1) (B.same e1) fun j H3 e2 => ⟨_, _, rfl, rfl, q _ _ (e1.trans e2)⟩
theorem mkI_sub (h : MkI X te σ H) (t : MkI X tf σ H) : MkI X (tOp (rI0 fun i j => V.int (i - j)) te tf) σ H := fun H1 Q s B q =>
  h H1 _ s B fun i H2 e1 => t H2 _ (s.trans e1) (B.same e1) fun j H3 e2 => ⟨_, _, rfl, rfl, q _ _ (e1.trans e2)⟩
theorem mkT_sl {K : PySem.W.Frag} {tl th : TO} (h : MkT X k c n te σ H) (l : MkO X tl σ H) (u : MkO X th σ H) : MkT X k c n (tSl (rSlA K) te tl th) σ H := fun H1 Q s B q =>
  h H1 _ s B fun p vs H2 e1 hp f1 hl1 => l H2 _ (s.trans e1) (B.same e1) fun lo H3 e2 => u H3 _ ((s.trans e1).trans e2) ((B.same e1).same e2) fun hi H4 e3 => by
    have e23 := e2.trans e3
    refine ⟨p, vs, rfl, SqT.of (e23 _ _ hp), fun _ => q _ _ _ (e1.trans e23) (e23 _ _ hp) (f1.same e23) hl1, fun _ p3 hp3 => ?_⟩
    have e4 := same_upd (.tup (cutV vs lo hi)) hp3
    exact q _ _ _ ((e1.trans e23).trans e4) upd_same ((f1.same (e23.trans e4)).cut lo hi) (Nat.le_trans (cutV_length _ _ _) hl1)
theorem mkT_rev {K : PySem.W.Frag} (h : MkT X k c n te σ H) : MkT X k c n (tRevT K te) σ H := fun H1 Q s B q => h H1 _ s B fun p vs H2 e1 hp f1 hl1 =>
  ⟨p, vs, rfl, SqT.of hp, fun p3 hp3 => q _ _ _ (e1.trans (same_upd _ hp3)) upd_same (fun x hx => (f1.same (same_upd _ hp3)) x (List.mem_reverse.mp hx)) (by rw [List.length_reverse]; exact hl1)⟩
theorem MkT.up (h : MkT X k c n te σ H) (hk : k ≤ k') (hc : c ≤ c') (hn : n ≤ m) : MkT X k' c' m te σ H := fun H1 Q s B q => h H1 Q s B fun p vs H2 e hp f hl => q p vs H2 e hp (f.up hk hc) (Nat.le_trans hl hn)
theorem MkT.mk (h : MkT X k c n te σ H) (hk : k + 1 ≤ k') (hc : n * (c + 2) + 4 ≤ c') : Mk X k' c' te σ H := fun H1 Q s B q => h H1 _ s B fun p vs H2 e hp f hl =>
  q _ _ e (f.tup hp hk (Nat.le_trans (Nat.add_le_add_right (Nat.mul_le_mul_right _ hl) 4) hc))
theorem mk_tup (h : MkA X k c n ta σ H) (hn : n ≤ 1000) (hk : k + 1 ≤ k') (hc : n * (c + 2) + 4 ≤ c') : Mk X k' c' (tTup ta) σ H := (mkT_tup h hn).mk hk hc
theorem mk_lst (h : MkA X k c n ta σ H) (hn : n ≤ 1000) (hk : k + 1 ≤ k') (hc : n * (c + 2) + 4 ≤ c') : Mk X k' c' (tLstB ta) σ H := fun H1 Q s B q => h H1 _ s B fun vs H2 e f hl =>
  ⟨Nat.le_trans (by omega : vs.length ≤ 1000) (by decide), fun p hp hs => by
    have o := (B.same e).off hp
    have e2 := same_upd (.lst vs) hp
    exact q _ _ (e.trans e2) ((f.same e2).lst upd_same hs o hk (by rw [hl]; exact hc))⟩
theorem mk_dnew (hk : 1 ≤ k) (hc : 4 ≤ c) : Mk X k c tDNewK σ H := fun H1 Q s B q p hp => q _ _ (same_upd _ hp) (.dnil upd_same (B.off hp) hk hc)
theorem mkL_lst (h : MkA X k c n ta σ H) (hn : n ≤ 1000) : MkL X k c n (tLstB ta) σ H := fun H1 Q s B q => h H1 _ s B fun vs H2 e f hl =>
  ⟨Nat.le_trans (by omega : vs.length ≤ 1000) (by decide), fun p hp hs => by
    have o := (B.same e).off hp
    exact q _ _ _ (e.trans (same_upd _ hp)) upd_same o (f.same (same_upd _ hp)) hl⟩
/-- a list of its own: nothing in it holds it -/
theorem mkL_new (h : MkA X k c n ta σ H) (hn : n ≤ 1000) (H1 : Hp) (Q : VK) (s : Same H H1) (B : HeldX X H1)
    (q : ∀ p vs H2, Same H1 H2 → H2 p = some (.lst vs) → ¬ X p → H1 p = none → Fits (more X p) k c H2 vs → vs.length = n → Q (.ref p) H2) : tLstB ta σ H1 Q := h H1 _ s B fun vs H2 e f hl =>
  ⟨Nat.le_trans (by omega : vs.length ≤ 1000) (by decide), fun p hp hs => by
    have o := (B.same e).off hp
    exact q _ _ _ (e.trans (same_upd _ hp)) upd_same o (e.free hp) (fun v hv => ((f v hv).add hp).same (same_upd _ hp)) hl⟩
theorem mkL_lst0 (h : MkA X k c n ta σ H) (hn : n ≤ 1000) : MkL X k c n (tLst ta) σ H := fun H1 Q s B q => h H1 _ s B fun vs H2 e f hl =>
  ⟨Nat.le_trans (by omega : vs.length ≤ 1000) (by decide), fun p hp => by
    have o := (B.same e).off hp
    exact q _ _ _ (e.trans (same_upd _ hp)) upd_same o (f.same (same_upd _ hp)) hl⟩
theorem mkL_v {p : Addr} {vs : List V} (e : σ[i]? = some (some (.ref p))) (hp : H p = some (.lst vs)) (hb : ¬ X p) (h : Fits X k c H vs) (hl : vs.length = n) : MkL X k c n (tVar i) σ H := fun H1 Q s _ q => ⟨_, e, q _ _ _ (Same.refl _) (s _ _ hp) hb (h.same s) hl⟩
theorem MkL.up (h : MkL X k c n te σ H) (hk : k ≤ k') (hc : c ≤ c') : MkL X k' c' n te σ H := fun H1 Q s B q => h H1 Q s B fun p vs H2 e hp n1 f hl => q p vs H2 e hp n1 (f.up hk hc) hl
theorem mkL_cat (h : MkL X k c n te σ H) (t : MkL X k c m tf σ H) (hn : n + m ≤ 1000) : MkL X k c (n + m) (tOp rCat te tf) σ H := fun H1 Q s B q =>
  h H1 _ s B fun p vs H2 e1 hp n1 f1 hl1 => t H2 _ (s.trans e1) (B.same e1) fun p' ws H3 e2 hp' _ f2 hl2 => by
    refine ⟨p, p', vs, ws, rfl, rfl, e2 _ _ hp, hp', Nat.le_trans (by omega : vs.length + ws.length ≤ 1000) (by decide), fun p3 hp3 => ?_⟩
    have e3 := same_upd (.lst (vs ++ ws)) hp3
    have o := (((B.same e1).same e2).off hp3)
    exact q _ _ _ ((e1.trans e2).trans e3) upd_same o (((f1.same e2).append f2).same e3) (by rw [List.length_append]; omega)
/-- [e for x in l] -/
theorem mkL_lc {K : PySem.W.Frag} {tl : TE} (hn : n ≤ 1000) (h : MkL X k c n tl σ H)
    (hs : ∀ (Y : Addr → Prop) (x : V) (H1 : Hp), (∀ {v : V} {k c : Nat}, Fit X k c H v → Fit Y k c H1 v) → Same H H1 → Fit Y k c H1 x → Mk Y k' c' te ((wipe σ [i]).set i (some x)) H1) :
    MkL X k' c' n (tLc (iList K tl) (gName i) tYes te [i]) σ H := fun H1 Q s B q => h H1 _ s B fun p vs H2 e hp n1 f hl => by
  refine ⟨p, rfl, ⟨_, SqL.of hp⟩, fun D hD => ?_⟩
  have eD : Same H2 (upd H2 D (.lst [])) := same_upd _ hD
  refine lc_list (K := K) (a := p) (xs := vs) (fun j H' => Same H2 H' ∧ ∃ ys, H' D = some (.lst ys) ∧ ys.length = j ∧ Fits (more X D) k' c' H' ys) ⟨eD, [], upd_same, rfl, .nil⟩ (fun j H' _ ⟨e', _⟩ => SqL.of (e' _ _ hp)) ?_ ?_
  · rintro j x H' hx ⟨e', ys, hys, hyl, fy⟩
    have hj := (List.getElem?_eq_some_iff.mp hx).1
    have B' : HeldX (more X D) H' := ((B.same e).same e').more hys
    refine ⟨by simp [wipe], ?_⟩
    refine hs (more X D) x H' (fun {v k c} fv => (((fv.same (s.trans e)).add hD).same e')) ((s.trans e).trans e') (((f x (List.mem_of_getElem? hx)).add hD).same e') H' _ (Same.refl _) B' fun y H3 e3 fy3 => ?_
    have hD3 := e3 _ _ hys
    refine ⟨ys, hD3, Nat.lt_of_lt_of_le (by omega : ys.length < 1001) (by decide), ?_, ys ++ [y], upd_same, by rw [List.length_append, hyl]; rfl, ?_⟩
    · exact same_upd2 _ (e'.trans e3) hD
    · have kp : KeepX (more X D) H3 (upd H3 D (.lst (ys ++ [y]))) := fun a o na ha => by
        rw [upd_ne fun z => na (.inr z)]
        exact ha
      exact ((fy.same e3).append (.cons fy3 .nil)).keep (B'.same e3) kp
  · rintro H' ⟨e', ys, hys, hyl, fy⟩
    exact q _ _ _ (e.trans e') hys ((B.same e).off hD) (fun x hx => (fy x hx).sub fun a ha => .inl ha) (hyl.trans hl)
/-- t * m, t not empty -/
theorem mkT_repv {K : PySem.W.Frag} {p : Addr} {vs : List V} {m : Int} (e : σ[i]? = some (some (.ref p))) (hp : H p = some (.tup vs)) (h : Fits X k c H vs) (hne : vs ≠ []) (hm : 2 ≤ m ∧ m ≤ 1000) (hl : vs.length ≤ n) (hn : n ≤ 1000) :
    MkT X k c (n * m.toNat) (tOp (rRepT K) (tVar i) (tC (.int m))) σ H := fun H1 Q s B q => by
  refine ⟨_, e, p, m, vs, rfl, rfl, SqT.of (s _ _ hp), hne, hm.1, hm.2, by omega, fun p3 hp3 => ?_⟩
  have e3 := same_upd (.tup (List.replicate m.toNat vs).flatten) hp3
  refine q _ _ _ e3 upd_same (fun x hx => ?_) ?_
  · obtain ⟨l, hl1, hl2⟩ := List.mem_flatten.mp hx
    rw [(List.mem_replicate.mp hl1).2] at hl2
    exact ((h x hl2).same s).same e3
  · rw [List.length_flatten, List.map_replicate, List.sum_replicate_nat, Nat.mul_comm]
    exact Nat.mul_le_mul_right _ hl
/-- t[:j], j written -/
theorem mkT_to {K : PySem.W.Frag} {j : Nat} (h : MkT X k c n te σ H) : MkT X k c j (tSl (rSlA K) te tNoPart (tPart (tC (.int (j : Int))))) σ H := fun H1 Q s B q =>
  h H1 _ s B fun p vs H2 e1 hp f1 hl1 => by
    have hc : (cutV vs none (some (j : Int))).length ≤ j := by
      unfold cutV
      rw [HT.sIx_none, List.length_take, HT.sIx_nat]
      omega
    refine ⟨_, rfl, p, vs, rfl, SqT.of hp, fun ⟨h1, h2⟩ => ?_, fun _ p3 hp3 => ?_⟩
    · refine q _ _ _ e1 hp f1 ?_
      have e : cutV vs none (some (j : Int)) = vs := by
        unfold cutV
        rw [h1, h2]
        simp
      rw [e] at hc
      exact hc
    · have e4 := same_upd (.tup (cutV vs none (some (j : Int)))) hp3
      exact q _ _ _ (e1.trans e4) upd_same ((f1.same e4).cut _ _) hc
/-- xs[i] of names; 0 - xs[0] -/
theorem mk_ixL {K : PySem.W.Frag} {p : Addr} {vs : List V} {tz : TE} {z : Int} (e : σ[i]? = some (some (.ref p))) (hp : H p = some (.lst vs)) (hz : ∀ H1 (Q : VK), Q (.int z) H1 → tz σ H1 Q) (ha : atI vs z = some v) (h : Fit X k c H v) : Mk X k c (tOp (rIxL K) (tVar i) tz) σ H := fun H1 Q s B q =>
  ⟨_, e, hz _ _ ⟨p, vs, z, v, rfl, rfl, SqL.of (s _ _ hp), ha, q _ _ (Same.refl _) (h.same s)⟩⟩
theorem mk_subL {K : PySem.W.Frag} {p : Addr} {vs : List V} {x y z : Int} (e : σ[i]? = some (some (.ref p))) (hp : H p = some (.lst vs)) (ha : atI vs z = some (.int y)) (h : Fit X k c H (.int (x - y))) : Mk X k c (tOp (rI0 fun i j => V.int (i - j)) (tC (.int x)) (tOp (rIxL K) (tVar i) (tC (.int z)))) σ H := fun H1 Q s B q =>
  ⟨_, e, p, vs, z, _, rfl, rfl, SqL.of (s _ _ hp), ha, _, _, rfl, rfl, q _ _ (Same.refl _) (h.same s)⟩
/-- 0 - n -/
theorem mk_subc {x z : Int} (e : σ[i]? = some (some (.int z))) (h : ∀ {H}, Fit X k c H (.int (x - z))) : Mk X k c (tOp (rI0 fun i j => V.int (i - j)) (tC (.int x)) (tVar i)) σ H := fun H1 Q s B q => ⟨_, e, _, _, rfl, rfl, q _ _ (Same.refl _) h⟩
theorem mk_addc {x z : Int} (e : σ[i]? = some (some (.int z))) (h : ∀ {H}, Fit X k c H (.int (z + x))) : Mk X k c (tOp (rI0 fun i j => V.int (i + j)) (tVar i) (tC (.int x))) σ H := fun H1 Q s B q => ⟨_, e, _, _, rfl, rfl, q _ _ (Same.refl _) h⟩
/-- t[i] of names -/
theorem mk_ixT {K : PySem.W.Frag} {p : Addr} {vs : List V} {tz : TE} {z : Int} (e : σ[i]? = some (some (.ref p))) (hp : H p = some (.tup vs)) (hz : ∀ H1 (Q : VK), Q (.int z) H1 → tz σ H1 Q) (ha : atI vs z = some v) (h : Fit X k c H v) : Mk X k c (tOp (rIxT K) (tVar i) tz) σ H := fun H1 Q s B q =>
  ⟨_, e, hz _ _ ⟨p, vs, z, v, rfl, rfl, SqT.of (s _ _ hp), ha, q _ _ (Same.refl _) (h.same s)⟩⟩
/-- list(t) -/
theorem mk_listof {K : PySem.W.Frag} (h : MkT X k c n te σ H) (hk : k + 1 ≤ k') (hc : n * (c + 2) + 4 ≤ c') :
    Mk X k' c' (tCB (fun xs H Q => ∃ p ys, xs = [V.ref p] ∧ (SqL K H p ys ∨ SqT K H p ys) ∧ ∀ l, H l = none → l ≠ sysModules → Q (V.ref l) (upd H l (.lst ys))) (tCons te tNil)) σ H := fun H1 Q s B q =>
  h H1 _ s B fun p vs H2 e hp f hl => ⟨p, vs, rfl, .inr (SqT.of hp), fun l hl2 hs => by
    have o := (B.same e).off hl2
    have e2 := same_upd (.lst vs) hl2
    exact q _ _ (e.trans e2) ((f.same e2).lst upd_same hs o hk (Nat.le_trans (Nat.add_le_add_right (Nat.mul_le_mul_right _ hl) 4) hc))⟩
/-- {i: j} -/
theorem mk_disp1 {x y : Int} (hx : -(2 ^ 200) < x ∧ x < 2 ^ 200) (hy : -(2 ^ 200) < y ∧ y < 2 ^ 200) (hk : 1 ≤ k) (hc : 4000 ≤ c) : Mk X k c (tDisp [(tC (.int x), tC (.int y))]) σ H := fun H1 Q s B q p hp => by
  refine ⟨upd_same, [(.inl x, .int y)], rfl, (Nat.le_of_ble_eq_true rfl), ?_⟩
  have e : Same H1 (upd (upd H1 p (.dK [])) p (.dK (mergeK [] [(.inl x, .int y)]))) := same_upd2 _ (same_upd _ hp) hp
  refine q _ _ e ?_
  obtain ⟨d1, a1, a2, a3, a4⟩ := Fit.small (X := X) (k := 0) (c := 1922) (H := H1) hx (Nat.le_refl _)
  obtain ⟨d2, c1, c2, c3, c4⟩ := Fit.small (X := X) (k := 0) (c := 1922) (H := H1) hy (Nat.le_refl _)
  cases a1
  cases c1
  refine ⟨.dict [(.int x, .int y)], .dct (kvs := [(.inl x, .int y)]) (ds := [.int y]) (B.off hp) upd_same (.cons (.int y) .nil), ?_, ?_, ?_⟩
  · rw [PyData.showable, PyData.showableKv, PyData.showableKv, a2, c2]
    rfl
  · rw [PyData.depth, PyData.depthKv, PyData.depthKv]
    omega
  · rw [costD, costKv, costKv]
    omega
end
end Own

namespace Own
open PySem PySem.Spec PyProof.Rows L2
theorem unit2_of {n : Nat} (h : n + 64 < cLine) : n + 2 < cLine := by omega
/-- isinstance of an error, by a built-in class -/
theorem kit_subB {K : PySem.W.Frag} {C : Addr} {T : String} (hm : PySem.W.kitMeta T = true) (h : PySem.W.subIn K (.ref C) (.type T) = some true) : PySem.W.kitOne K (.ref C) (.type T) = some true := by
  unfold PySem.W.kitOne PySem.W.kitCls
  split
  · rfl
  · dsimp only
    rw [if_pos hm]
    exact h
/-! ### dicts made of pairs whose keys are tuples of whole numbers and texts: dict(zip(xs, ys)), dict(pairs) -/
def mergeT (kvs more : List (List L2.Key × V)) : List (List L2.Key × V) := more.foldl (fun acc kv => putK acc kv.1 kv.2) kvs
theorem kt_merge {H : Hp} : ∀ {more : List (List L2.Key × V)} {rs : List (List L2.Key × Addr × Value)} {kvs : List (List L2.Key × V)} {xs : List (List L2.Key × Addr × Value)}, L2.KT H more rs → L2.KT H kvs xs → L2.KT H (mergeT kvs more) (storedAllH xs rs)
  | _, _, _, _, .nil, h => h
  | _, _, _, _, .cons (a := p) (b := q) h t, k => by
    obtain ⟨h1, h2, h3⟩ := h
    show L2.KT H (mergeT (putK _ p.1 p.2) _) (storedAllH (storedH _ q.1 q.2.1 q.2.2) _)
    refine kt_merge t ?_
    rw [← h1]
    exact k.put p.1 h2 h3
theorem length_mergeT : ∀ (more kvs : List (List L2.Key × V)), (mergeT kvs more).length ≤ kvs.length + more.length
  | [], kvs => Nat.le_refl _
  | p :: r, kvs => by
    have h1 := length_mergeT r (putK kvs p.1 p.2)
    have h2 : (putK kvs p.1 p.2).length ≤ kvs.length + 1 := by
      unfold putK
      split <;> simp
    show (mergeT (putK kvs p.1 p.2) r).length ≤ _
    rw [List.length_cons]
    omega
theorem val_mergeT : ∀ (more kvs : List (List L2.Key × V)) (k : List L2.Key), (∀ p ∈ more, p.1 ≠ k) → valV (mergeT kvs more) k = valV kvs k
  | [], _, _, _ => rfl
  | p :: r, kvs, k, h => by
    show valV (mergeT (putK kvs p.1 p.2) r) k = _
    rw [val_mergeT r _ k (fun q hq => h q (List.mem_cons_of_mem _ hq)), valV_put, if_neg (fun e => h p List.mem_cons_self e.symm)]
/-- what stands at a key that comes but once -/
theorem val_merge_at : ∀ {more : List (List L2.Key × V)} {kvs : List (List L2.Key × V)} {i : Nat} {k : List L2.Key} {v : V}, (more.map (·.1)).Nodup → more[i]? = some (k, v) → valV (mergeT kvs more) k = some v
  | [], _, _, _, _, _, h => by simp at h
  | p :: r, kvs, 0, k, v, n, h => by
    simp at h
    subst h
    rw [List.map_cons, List.nodup_cons] at n
    show valV (mergeT (putK kvs k v) r) k = _
    rw [val_mergeT r _ k (fun q hq e => n.1 (List.mem_map.mpr ⟨q, hq, e⟩)), valV_put, if_pos rfl]
  | p :: r, kvs, i + 1, k, v, n, h => by
    rw [List.map_cons, List.nodup_cons] at n
    show valV (mergeT (putK kvs p.1 p.2) r) k = _
    exact val_merge_at n.2 (by simpa using h)
section
variable {X : Cx} {pins : List (Addr × Obj)} {σ : L2.St} {H : Hp} {s : Shared}
theorem key_keeps {h' : Heap} {a : Addr} {ks : List L2.Key} (ok : HOk X.prog X.w H s.heap) (e : H a = some (.tup (ks.map kV))) (k : ∀ o, s.heap.get? a = some o → h'.get? a = some o) : (tupleKind (mixKind X.prog X.w)).is h' ks a := by
  obtain ⟨_, its, r, o, h1, h2, n, h3⟩ := (show ObjOk X.prog X.w H s.heap a (.tup (ks.map kV)) from ok a _ e)
  exact ⟨o, its.toArray, n, k _ h1, h2, h3, by simpa using items_are r⟩
theorem dT_ok {h' : Heap} {d : Addr} {kvs : List (List L2.Key × V)} {xs : List (List L2.Key × Addr × Value)} (hz : kvs.length ≤ sizeLine) (hd : (d == sysModules) = false) (r : L2.KT (upd H d (.dT kvs)) kvs xs) (m : h'.DictOfH (tupleKind (mixKind X.prog X.w)) d xs) :
    ObjOk X.prog X.w (upd H d (.dT kvs)) h' d (.dT kvs) := by
  obtain ⟨o, es, ep, h1, h2, h3, h4, _, h5⟩ := m
  exact ⟨hz, hd, xs, r, o, es, ep, h1, h2, h3, h4, h5⟩
/-- keys and values, as they stand -/
theorem keys_vals {ks : List (Addr × List L2.Key)} {ys : List V} {us : List Value} (hk : ∀ k ∈ ks, H k.1 = some (.tup (k.2.map kV))) (r : Vals ys us) (hl : ks.length = ys.length) :
    L2.KT H ((ks.map (·.2)).zip ys) ((ks.zip us).map fun z => (z.1.2, z.1.1, z.2)) := by
  induction ks generalizing ys us with
  | nil => exact .nil
  | cons k ks ih =>
    cases r with
    | nil => simp at hl
    | cons r t =>
      rw [List.map_cons, List.zip_cons_cons, List.zip_cons_cons, List.map_cons]
      exact .cons ⟨rfl, hk k List.mem_cons_self, r⟩ (ih (fun x hx => hk x (List.mem_cons_of_mem _ hx)) t (by simpa using hl))
end
def tDZip (K : PySem.W.Frag) (ta : TA) : TE := fun σ H Q => ta σ H fun vs H1 => ∃ (a b : Addr) (ks : List (Addr × List L2.Key)) (ys : List V), vs = [.ref a, .ref b] ∧ SqL K H1 a (ks.map fun k => V.ref k.1) ∧ SqL K H1 b ys ∧ (∀ k ∈ ks, H1 k.1 = some (.tup (k.2.map kV))) ∧ ks.length = ys.length ∧
  ∀ p, H1 p = none → Q (.ref p) (upd H1 p (.dT (mergeT [] ((ks.map (·.2)).zip ys))))
section
variable {X : Cx}
theorem pe_dictZip {e e2 : Expr} {ta : TA} {p0 p pos cpos : PySem.Pos} (hcalm : X.calm = true) (hu : X.A.units + 2 < cLine) (hg : Gl X "dict") (hm : X.mg "dict" = none) (hgz : Gl X "zip") (hmz : X.mg "zip" = none) (ha : PA X [e, e2] ta)
    (hs : starEach [e, e2] X.env = (false, eval e X.env) :: starEach [e2] X.env := by rfl) (hpl : (backTo pos (starEach [e2] X.env)).any (·.1) = false := by rfl)
    (hs0 : starEach [Expr.Call (.Name "zip" p) [e, e2] [] pos] X.env = (false, eval (Expr.Call (.Name "zip" p) [e, e2] [] pos) X.env) :: starEach [] X.env := by rfl) (hpl0 : (backTo cpos (starEach [] X.env)).any (·.1) = false := by rfl) :
    PE X (.Call (.Name "dict" p0) [.Call (.Name "zip" p) [e, e2] [] pos] [] cpos) (tDZip X.K ta) := by
  refine ⟨fun pins s σ H Q I h => ?_⟩
  refine wpAny_Call_Name_kw (ld_blt I hg hm PyProof.Rows.boot_dict ?_ (by decide) (by decide))
  refine PyProof.Rows.callWith_type1 ?_ hs0 hpl0
  rw [hs0]
  show wpAny _ _ (spliced ((false, eval (Expr.Call (.Name "zip" p) [e, e2] [] pos) X.env) :: backTo cpos (starEach [] X.env))) _ _ s
  refine Calls.spliced_cons ?_
  refine wpAny_Call_Name_kw (ld_blt I hgz hmz PyProof.Rows.boot_zip ?_ (by decide) (by decide))
  refine PyProof.Rows.callWith_type1 (thn (ha.run pos pins s σ H _ I h) fun us s1 ⟨vs, H1, I1, r1, q1⟩ => ?_) hs hpl
  obtain ⟨a, b, ks, ys, ex, hqx, hqy, hks, hl, q⟩ := q1
  subst ex
  cases r1 with
  | cons r rr =>
    cases rr with
    | cons r' rr =>
      cases rr
      cases r
      cases r'
      obtain ⟨its, rv, p1, z1⟩ := I1.list hqx
      obtain ⟨its2, rv2, p2, z2⟩ := I1.list hqy
      have ei : its = ks.map fun k => Value.ref k.1 := by
        have e := refs_at (ps := ks.map (·.1)) (us := its) (by rw [List.map_map]; exact rv)
        rw [e, List.map_map]
        rfl
      subst ei
      have l2 := rv2.length
      refine call_zip_2 p1.isList p2.isList fun h' hz hTI hTO h1 h2 hsz hk => ?_
      refine Calls.spliced_nil ?_
      have k1 : ∀ {x o}, s1.heap.get? x = some o → x ≠ s1.heap.objs.size + 4 ∧ x ≠ s1.heap.objs.size + 3 ∧ x ≠ s1.heap.objs.size ∧ x ≠ s1.heap.objs.size + 1 := fun {x o} e => by
        have := Heap.lt_size e
        exact ⟨Nat.ne_of_lt (Nat.lt_of_lt_of_le this (Nat.le_add_right _ _)), Nat.ne_of_lt (Nat.lt_of_lt_of_le this (Nat.le_add_right _ _)), Nat.ne_of_lt this, Nat.ne_of_lt (Nat.lt_of_lt_of_le this (Nat.le_add_right _ _))⟩
      have noW : ∀ {x o}, s1.heap.get? x = some o → x ∉ [s1.heap.objs.size + 4, s1.heap.objs.size + 3, s1.heap.objs.size, s1.heap.objs.size + 1] := fun {x o} e hx => by
        obtain ⟨n1, n2, n3, n4⟩ := k1 e
        simp only [List.mem_cons, List.not_mem_nil, or_false] at hx
        rcases hx with hx | hx | hx | hx
        · exact n1 hx
        · exact n2 hx
        · exact n3 hx
        · exact n4 hx
      have kt := keys_vals hks rv2 hl
      have hlen : ((ks.zip its2).map fun z => (z.1.2, z.1.1, z.2)).length = ks.length := by
        rw [List.length_map, List.length_zip]
        omega
      refine PySem.call_dict_pairsH (knd := tupleKind (mixKind X.prog X.w)) (ps := (ks.zip its2).map fun z => (z.1.2, z.1.1, z.2))
        (PairArg.zip (s1.heap.objs.size + 4) (s1.heap.objs.size + 2) (s1.heap.objs.size + 3) s1.heap.objs.size (s1.heap.objs.size + 1) a b (PySem.W.ktu_apart s1.heap.objs.size a b p1.lt p2.lt) (ks.map fun k => Value.ref k.1).toArray its2.toArray)
        (I1.ok.hd hcalm) (tupleKind_room_in1 hu) ⟨hz, hTI, ⟨_, _, hTO⟩, h1, h2, p1.isList.at fun o e => hk _ _ e, p2.isList.at fun o e => hk _ _ e⟩ ⟨?_, fun i key v hr => ?_⟩ (fun h'' hk'' x hx => ?_) ?_ fun h'' tk hd' hk' => ?_
      · rw [hlen]
        simp
        omega
      · obtain ⟨g1, g2⟩ := hr
        simp only [List.getElem?_toArray, List.getElem?_map] at g1 g2
        obtain ⟨kk, g3, g4⟩ := Option.map_eq_some_iff.mp g1
        refine ⟨kk.2, kk.1, ?_, g4.symm⟩
        rw [List.getElem?_map, (show (ks.zip its2)[i]? = some (kk, v) from List.getElem?_zip_eq_some.mpr ⟨g3, g2⟩)]
        rfl
      · obtain ⟨z, hz', rfl⟩ := List.mem_map.mp hx
        have hmem := (List.of_mem_zip hz').1
        exact key_keeps I1.hok (hks _ hmem) fun o e => hk'' _ _ (fun g => by
          have := Heap.lt_size (hk _ _ e)
          rw [g] at this
          exact Nat.lt_irrefl _ this) (noW e) (hk _ _ e)
      · show min (ks.map fun k => Value.ref k.1).toArray.size its2.toArray.size ≤ sizeLine
        rw [List.length_map] at z1
        refine Nat.le_trans (Nat.min_le_left _ _) ?_
        simpa using z1
      · have kall : ∀ x o, s1.heap.get? x = some o → h''.get? x = some o := fun x o e => hk' x o (noW e) (hk x o e)
        have hm : (h'.objs.size == sysModules) = false := beq_eq_false_iff_ne.mpr (Nat.ne_of_gt (Nat.lt_of_lt_of_le I1.big (by rw [hsz]; exact Nat.le_add_right _ _)))
        have hfr : H1 h'.objs.size = none := I1.hok.fresh (by rw [hsz]; exact Nat.le_add_right _ _)
        have ktm := kt_merge kt (kvs := []) (xs := []) .nil
        have hlm : (mergeT [] ((ks.map (·.2)).zip ys)).length ≤ sizeLine := by
          refine Nat.le_trans (length_mergeT _ _) ?_
          rw [List.length_nil, Nat.zero_add, List.length_zip, List.length_map]
          refine Nat.le_trans (Nat.min_le_left _ _) ?_
          simpa using z1
        refine ⟨.ref h'.objs.size, upd H1 h'.objs.size (.dT (mergeT [] ((ks.map (·.2)).zip ys))), I1.laid (t' := tk) kall (by rw [hsz]; exact Nat.le_add_right _ _) (dT_ok hlm hm (ktm.keeps fun c xs hc => ?_) hd'), rfl, q _ hfr⟩
        rw [upd_ne fun g => by rw [g, hfr] at hc; cases hc]
        exact hc
/-- dict(ps) of a list of pairs -/
theorem pairsT_of {pins : List (Addr × Obj)} {σ : L2.St} {H : Hp} {s : Shared} (I : Inv X pins σ H s) : ∀ {ps : List Addr} {kvs : List (List L2.Key × V)}, Paired (fun p kv => ∃ b, SqT X.K H p [.ref b, kv.2] ∧ H b = some (.tup (kv.1.map kV))) ps kvs →
    ∃ rs : List (List L2.Key × Addr × Value), L2.KT H kvs rs ∧ rs.length = ps.length ∧ ∀ (j : Nat) (q : List L2.Key × Addr × Value), rs[j]? = some q → ∃ b : Addr, ps[j]? = some b ∧ IsTup s.heap b #[.ref q.2.1, q.2.2]
  | _, _, .nil => ⟨[], .nil, rfl, fun j q e => by simp at e⟩
  | _, _, .cons (a := p) (b := kv) h t => by
    obtain ⟨rs, r, hl, hp⟩ := pairsT_of I t
    obtain ⟨b, h1, h2⟩ := h
    obtain ⟨its, rv, ht, _⟩ := I.tuple h1
    obtain ⟨u, y, ei, ru, ry⟩ := vals2 rv
    subst ei
    cases (show u = Value.ref b from ru)
    refine ⟨(kv.1, b, y) :: rs, .cons ⟨rfl, h2, ry⟩ r, by rw [List.length_cons, List.length_cons, hl], fun j q e => ?_⟩
    cases j with
    | zero =>
      have e' : (kv.1, b, y) = q := Option.some.inj e
      subst e'
      exact ⟨p, rfl, ht⟩
    | succ j =>
      obtain ⟨b', e1, e2⟩ := hp j q (by simpa using e)
      exact ⟨b', by simpa using e1, e2⟩
theorem call_dictPT (hcalm : X.calm = true) (hu : X.A.units + 2 < cLine) : CallR X (.type "dict") (fun xs H Q => ∃ (a : Addr) (ps : List Addr) (kvs : List (List L2.Key × V)), xs = [.ref a] ∧ SqL X.K H a (ps.map V.ref) ∧ Paired (fun p kv => ∃ b, SqT X.K H p [.ref b, kv.2] ∧ H b = some (.tup (kv.1.map kV))) ps kvs ∧
    ∀ p, H p = none → Q (.ref p) (upd H p (.dT (mergeT [] kvs)))) := by
  intro pins s σ H xs us Q I r q
  obtain ⟨a, ps, kvs, ex, hq, hp, q⟩ := q
  subst ex
  obtain ⟨u, eu, rx⟩ := vals1 r
  subst eu
  cases rx
  obtain ⟨its, rv, pl, hz⟩ := I.list hq
  have ei := refs_at rv
  subst ei
  rw [List.length_map] at hz
  obtain ⟨rs, rel, hl, hpr⟩ := pairsT_of I hp
  obtain ⟨o, n, ho, hc, hd, hdat⟩ := pl
  have hln : (rs.map fun q => (Value.ref q.2.1, q.2.2)).length = ps.length := by rw [List.length_map, hl]
  refine PySem.call_dict_pairsH (knd := tupleKind (mixKind X.prog X.w)) (ps := rs) (PairArg.list a (ps.map Value.ref).toArray (fun j => (ps[j]?).getD 0) (rs.map fun q => (Value.ref q.2.1, q.2.2)))
    (I.ok.hd hcalm) (tupleKind_room_in1 hu) ⟨⟨o, n, ho, hc, hd, hdat⟩, by simp [hl], fun j k v hj => ?_⟩ ⟨by rw [List.length_map], fun i key v hr => ?_⟩ (fun h'' hk'' x hx => ?_) (by rw [hln]; exact hz) fun h'' tk hd' hk' => ?_
  · rw [List.getElem?_map] at hj
    obtain ⟨q', hq', e'⟩ := Option.map_eq_some_iff.mp hj
    obtain ⟨b, e1, e2⟩ := hpr j q' hq'
    cases e'
    refine ⟨by simp [e1], .inl ?_⟩
    show s.heap.IsTuple ((ps[j]?).getD 0) _
    rw [e1]
    exact e2
  · rw [show PairRel (rs.map fun q => (Value.ref q.2.1, q.2.2)) i key v = ((rs.map fun q => (Value.ref q.2.1, q.2.2))[i]? = some (key, v)) from rfl, List.getElem?_map] at hr
    obtain ⟨q', hq', e'⟩ := Option.map_eq_some_iff.mp hr
    cases e'
    exact ⟨q'.1, q'.2.1, hq', rfl⟩
  · have all : ∀ {l : List (List L2.Key × V)} {m : List (List L2.Key × Addr × Value)}, L2.KT H l m → ∀ y ∈ m, (tupleKind (mixKind X.prog X.w)).is h'' y.1 y.2.1 := by
      intro l m z
      induction z with
      | nil => intro y hy; exact nomatch hy
      | @cons p q ps qs hq t ih =>
        intro y hy
        rcases List.mem_cons.mp hy with e | hy
        · subst e
          exact key_keeps I.hok (by rw [← hq.1]; exact hq.2.1) fun o e => hk'' _ _ (Nat.ne_of_lt (Heap.lt_size e)) (fun g => nomatch g) e
        · exact ih y hy
    exact all rel x hx
  · have hm : (s.heap.objs.size == sysModules) = false := beq_eq_false_iff_ne.mpr (Nat.ne_of_gt I.big)
    have hfr : H s.heap.objs.size = none := I.hok.fresh (Nat.le_refl _)
    have hlen : (mergeT [] kvs).length ≤ sizeLine := by
      refine Nat.le_trans (length_mergeT kvs []) ?_
      rw [List.length_nil, Nat.zero_add, rel.length, hl]
      exact hz
    refine ⟨.ref s.heap.objs.size, upd H s.heap.objs.size (.dT (mergeT [] kvs)), I.laid (t' := tk) (fun b o e => hk' b o (fun g => nomatch g) e) (Nat.le_refl _) (dT_ok hlen hm ((kt_merge rel (kvs := []) (xs := []) .nil).keeps fun c xs hc => ?_) hd'), rfl, q _ hfr⟩
    rw [upd_ne fun g => by rw [g, hfr] at hc; cases hc]
    exact hc
end
/-! ### != of two lists of the same flat things -/
def rNeL (K : PySem.W.Frag) : R2 := fun x y H Q => ∃ a b xs, x = .ref a ∧ y = .ref b ∧ SqL K H a xs ∧ SqL K H b xs ∧ (∀ v ∈ xs, flatB v = true) ∧ Q (.bl false) H
theorem op_neL {X : Cx} (hu : X.A.units + 64 < cLine) : OpR X (compareOp .NotEq) (rNeL X.K) := by
  intro pins s σ H x y v u Q I rx ry h
  obtain ⟨a, b, xs, rfl, rfl, ha, hb, hf, q⟩ := h
  cases (show v = Value.ref a from rx)
  cases (show u = Value.ref b from ry)
  obtain ⟨us, r1, p1, _⟩ := I.list ha
  obtain ⟨ws, r2, p2, _⟩ := I.list hb
  have hsz : us.toArray.size = ws.toArray.size := by
    rw [List.size_toArray, List.size_toArray, ← r1.length, ← r2.length]
  refine SeqAt.RcNeAt.lists (e := fun _ => true) p1.isList p2.isList hsz (by omega) (fun j h1 h2 => ?_) _ _ _ _ ?_
  · have hj : j < xs.length := by rw [r1.length]; simpa using h1
    obtain ⟨u1, e1, q1⟩ := r1.get (List.getElem?_eq_getElem hj)
    obtain ⟨u2, e2, q2⟩ := r2.get (List.getElem?_eq_getElem hj)
    have k1 : us.toArray[j] = u1 := by
      have := (List.getElem?_eq_some_iff.mp e1).2
      simpa using this
    have k2 : ws.toArray[j] = u2 := by
      have := (List.getElem?_eq_some_iff.mp e2).2
      simpa using this
    rw [k1, k2]
    exact eqAt_same q1 q2 (hf _ (List.getElem_mem hj))
  · rw [show ((List.range us.toArray.size).all fun _ => true) = true from List.all_eq_true.mpr fun _ _ => rfl]
    exact ⟨.bl false, H, I, rfl, q⟩
/-- == of two lists of the same flat things -/
def rEqL (K : PySem.W.Frag) : R2 := fun x y H Q => ∃ a b xs, x = .ref a ∧ y = .ref b ∧ SqL K H a xs ∧ SqL K H b xs ∧ (∀ v ∈ xs, flatB v = true) ∧ Q (.bl true) H
theorem op_eqL {X : Cx} (hu : X.A.units + 64 < cLine) : OpR X (compareOp .Eq) (rEqL X.K) := by
  intro pins s σ H x y v u Q I rx ry h
  obtain ⟨a, b, xs, rfl, rfl, ha, hb, hf, q⟩ := h
  refine op_eqV hu pins s σ H _ _ v u Q I rx ry ⟨1, by decide, .inl ⟨a, b, xs, xs, rfl, rfl, ha, hb, ?_⟩, q⟩
  clear ha hb q
  induction xs with
  | nil => exact .nil
  | cons x xs ih => exact .cons (.inl ⟨rfl, hf x List.mem_cons_self⟩) (ih fun v hv => hf v (List.mem_cons_of_mem _ hv))
/-- xs != [], whatever stands in xs -/
def rNeE (K : PySem.W.Frag) : R2 := fun x y H Q => ∃ a b xs, x = .ref a ∧ y = .ref b ∧ SqL K H a xs ∧ SqL K H b [] ∧ Q (.bl (!decide (xs.length = 0))) H
theorem op_neE {X : Cx} (hu : X.A.units + 64 < cLine) : OpR X (compareOp .NotEq) (rNeE X.K) := by
  intro pins s σ H x y v u Q I rx ry h
  obtain ⟨a, b, xs, rfl, rfl, ha, hb, q⟩ := h
  cases (show v = Value.ref a from rx)
  cases (show u = Value.ref b from ry)
  obtain ⟨us, r1, p1, _⟩ := I.list ha
  obtain ⟨ws, r2, p2, _⟩ := I.list hb
  have l1 := r1.length
  have l2 := r2.length
  rw [List.length_nil] at l2
  by_cases hx : xs.length = 0
  · have hsz : us.toArray.size = ws.toArray.size := by
      rw [List.size_toArray, List.size_toArray]
      omega
    rw [decide_eq_true hx] at q
    refine SeqAt.RcNeAt.lists (e := fun _ => true) p1.isList p2.isList hsz (by omega) (fun j h1 h2 => ?_) _ _ _ _ ?_
    · rw [List.size_toArray] at h1
      omega
    · rw [show ((List.range us.toArray.size).all fun _ => true) = true from List.all_eq_true.mpr fun _ _ => rfl]
      exact ⟨.bl false, H, I, rfl, q⟩
  · have hsz : (us.toArray.size != ws.toArray.size) = true := by
      rw [List.size_toArray, List.size_toArray, bne_iff_ne]
      omega
    rw [decide_eq_false hx] at q
    exact SeqAt.RcNeAt.lists_lengths p1.isList p2.isList hsz (by omega) _ _ _ _ ⟨.bl true, H, I, rfl, q⟩
end Own

namespace Own
open PySem PySem.Spec PyProof.Rows L2
/-! ### lists of small values by ranges -/
section
variable {X : Addr → Prop} {k c k' c' n m : Nat} {σ : L2.St} {H : Hp} {te tf : TE} {ta : TA} {v : V} {i : Nat}
theorem mkL_rng {lo : Int} (hn : n ≤ 1000) {H1 : Hp} {Q : VK} (s : Same H H1) (B : HeldX X H1)
    (hs : ∀ (Y : Addr → Prop) (x : Int) (H1 : Hp), lo ≤ x → x < lo + n → (∀ {v : V} {k c : Nat}, Fit X k c H v → Fit Y k c H1 v) → Same H H1 → Mk Y k' c' te ((wipe σ [i]).set i (some (.int x))) H1)
    (q : ∀ p vs H2, Same H1 H2 → H2 p = some (.lst vs) → ¬ X p → Fits X k' c' H2 vs → vs.length = n → Q (.ref p) H2) {D : Addr} (hD : H1 D = none) :
    ∃ W : Nat → Nat → Hp → Prop, (∃ m, W 0 m (upd H1 D (.lst []))) ∧ ∀ j m H, W j m H →
      ((Itr lo n).stop j H ∧ Q (.ref D) H) ∨ ((Itr lo n).go j H ∧ ∃ Nx : Hp → Prop, (∀ H', Nx H' → ∃ m', m' < m ∧ W (j + 1) m' H') ∧ ∀ x H', (Itr lo n).yld j H x H' → gName i x (wipe σ [i]) H' fun σ2 H2 => wipe σ2 [i] = wipe σ [i] ∧ tYes σ2 H2 fun b H3 =>
        if b = true then te σ2 H3 fun y H4 => ∃ acc, H4 D = some (.lst acc) ∧ acc.length < sizeLine ∧ Nx (upd H4 D (.lst (acc ++ [y]))) else Nx H3) := by
  have eD : Same H1 (upd H1 D (.lst [])) := same_upd _ hD
  refine lc_range (lo := lo) (n := n) (fun j H' => Same H1 H' ∧ ∃ ys, H' D = some (.lst ys) ∧ ys.length = j ∧ Fits (more X D) k' c' H' ys) ⟨eD, [], upd_same, rfl, .nil⟩ ?_ ?_
  · rintro j H' hj ⟨e', ys, hys, hyl, fy⟩
    have B' : HeldX (more X D) H' := (B.same e').more hys
    refine ⟨by simp [wipe], ?_⟩
    refine hs (more X D) (lo + j) H' (by omega) (by omega) (fun {v k c} fv => (((fv.same s).add hD).same e')) (s.trans e') H' _ (Same.refl _) B' fun y H3 e3 fy3 => ?_
    have hD3 := e3 _ _ hys
    refine ⟨ys, hD3, Nat.lt_of_lt_of_le (by omega : ys.length < 1001) (by decide), ?_, ys ++ [y], upd_same, by rw [List.length_append, hyl]; rfl, ?_⟩
    · exact same_upd2 _ (e'.trans e3) hD
    · have kp : KeepX (more X D) H3 (upd H3 D (.lst (ys ++ [y]))) := fun a o na ha => by
        rw [upd_ne fun z => na (.inr z)]
        exact ha
      exact ((fy.same e3).append (.cons fy3 .nil)).keep (B'.same e3) kp
  · rintro H' ⟨e', ys, hys, hyl, fy⟩
    exact q _ _ _ e' hys (B.off hD) (fun x hx => (fy x hx).sub fun a ha => .inl ha) hyl
/-- [e for x in range(n)] -/
theorem mkL_rng1 {z : Int} (hz : z = (n : Int)) (hn : n ≤ 1000)
    (hs : ∀ (Y : Addr → Prop) (x : Int) (H1 : Hp), 0 ≤ x → x < 0 + n → (∀ {v : V} {k c : Nat}, Fit X k c H v → Fit Y k c H1 v) → Same H H1 → Mk Y k' c' te ((wipe σ [i]).set i (some (.int x))) H1) :
    MkL X k' c' n (tLc (iRng1 (tCons (tC (.int z)) tNil)) (gName i) tYes te [i]) σ H := fun H1 Q s B q => by
  subst hz
  exact ⟨(n : Int), rfl, by omega, by omega, fun D hD => mkL_rng (lo := 0) hn s B hs q hD⟩
/-- [e for x in range(lo, hi)] -/
theorem mkL_rng2 {lo hi : Int} (hz : (hi - lo).toNat = n) (h : lo ≤ hi) (hl : -1000000 ≤ lo ∧ hi ≤ 1000000) (hn : n ≤ 1000)
    (hs : ∀ (Y : Addr → Prop) (x : Int) (H1 : Hp), lo ≤ x → x < lo + n → (∀ {v : V} {k c : Nat}, Fit X k c H v → Fit Y k c H1 v) → Same H H1 → Mk Y k' c' te ((wipe σ [i]).set i (some (.int x))) H1) :
    MkL X k' c' n (tLc (iRng2 (tCons (tC (.int lo)) (tCons (tC (.int hi)) tNil))) (gName i) tYes te [i]) σ H := fun H1 Q s B q => by
  subst hz
  exact ⟨lo, hi, rfl, ⟨by omega, by omega, by omega, by omega⟩, fun D hD => mkL_rng (lo := lo) hn s B hs q hD⟩
/-- a tuple of just n small values -/
def MkTE (X : Addr → Prop) (k c n : Nat) (te : TE) (σ : L2.St) (H : Hp) : Prop := ∀ (H1 : Hp) (Q : VK), Same H H1 → HeldX X H1 → (∀ p vs H2, Same H1 H2 → H2 p = some (.tup vs) → Fits X k c H2 vs → vs.length = n → Q (.ref p) H2) → te σ H1 Q
theorem mkTE_tup (h : MkA X k c n ta σ H) (hn : n ≤ 1000) : MkTE X k c n (tTup ta) σ H := fun H1 Q s B q => h H1 _ s B fun vs H2 e f hl =>
  ⟨Nat.le_trans (by omega : vs.length ≤ 1000) (by decide), fun p hp => q p vs _ (e.trans (same_upd _ hp)) upd_same (f.same (same_upd _ hp)) hl⟩
theorem mkTE_v {p : Addr} {vs : List V} (e : σ[i]? = some (some (.ref p))) (hp : H p = some (.tup vs)) (h : Fits X k c H vs) (hl : vs.length = n) : MkTE X k c n (tVar i) σ H := fun H1 Q s _ q => ⟨_, e, q _ _ _ (Same.refl _) (s _ _ hp) (h.same s) hl⟩
/-- [e for x in t] -/
theorem mkL_lcT {K : PySem.W.Frag} {tl : TE} (hn : n ≤ 1000) (h : MkTE X k c n tl σ H)
    (hs : ∀ (Y : Addr → Prop) (x : V) (H1 : Hp), (∀ {v : V} {k c : Nat}, Fit X k c H v → Fit Y k c H1 v) → Same H H1 → Fit Y k c H1 x → Mk Y k' c' te ((wipe σ [i]).set i (some x)) H1) :
    MkL X k' c' n (tLc (iTup K tl) (gName i) tYes te [i]) σ H := fun H1 Q s B q => h H1 _ s B fun p vs H2 e hp f hl => by
  refine ⟨p, rfl, ⟨_, SqT.of hp⟩, fun D hD => ?_⟩
  have eD : Same H2 (upd H2 D (.lst [])) := same_upd _ hD
  refine lc_tup (K := K) (a := p) (xs := vs) (fun j H' => Same H2 H' ∧ ∃ ys, H' D = some (.lst ys) ∧ ys.length = j ∧ Fits (more X D) k' c' H' ys) ⟨eD, [], upd_same, rfl, .nil⟩ (fun j H' _ ⟨e', _⟩ => SqT.of (e' _ _ hp)) ?_ ?_
  · rintro j x H' hx ⟨e', ys, hys, hyl, fy⟩
    have hj := (List.getElem?_eq_some_iff.mp hx).1
    have B' : HeldX (more X D) H' := ((B.same e).same e').more hys
    refine ⟨by simp [wipe], ?_⟩
    refine hs (more X D) x H' (fun {v k c} fv => (((fv.same (s.trans e)).add hD).same e')) ((s.trans e).trans e') (((f x (List.mem_of_getElem? hx)).add hD).same e') H' _ (Same.refl _) B' fun y H3 e3 fy3 => ?_
    have hD3 := e3 _ _ hys
    refine ⟨ys, hD3, Nat.lt_of_lt_of_le (by omega : ys.length < 1001) (by decide), ?_, ys ++ [y], upd_same, by rw [List.length_append, hyl]; rfl, ?_⟩
    · exact same_upd2 _ (e'.trans e3) hD
    · have kp : KeepX (more X D) H3 (upd H3 D (.lst (ys ++ [y]))) := fun a o na ha => by
        rw [upd_ne fun z => na (.inr z)]
        exact ha
      exact ((fy.same e3).append (.cons fy3 .nil)).keep (B'.same e3) kp
  · rintro H' ⟨e', ys, hys, hyl, fy⟩
    exact q _ _ _ (e.trans e') hys ((B.same e).off hD) (fun x hx => (fy x hx).sub fun a ha => .inl ha) (hyl.trans hl)
end
end Own

namespace Own
open PySem PySem.Spec PyProof.Rows L2
/-! ### sorted(d.items()), whole numbers to whole numbers -/
def entI (p : Int × Int) : Key × V := (.inl p.1, .int p.2)
def rSortIt : V → Hp → VK → Prop := fun x H Q => ∃ (d : Addr) (ps : List (Int × Int)), x = .ref d ∧ H d = some (.dK (ps.map entI)) ∧
  ∀ (H' : Hp) (p : Addr) (zs : List (Addr × (Int × Int))), Same H H' → H p = none → H' p = some (.lst (zs.map fun z => V.ref z.1)) → (zs.map Prod.snd).Perm ps → (zs.map Prod.snd).Pairwise (fun x y => x.1 ≤ y.1) → (∀ z ∈ zs, H' z.1 = some (.tup [.int z.2.1, .int z.2.2])) → Q (.ref p) H'
def tSortIt (te : TE) : TE := fun σ H Q => te σ H fun x H1 => rSortIt x H1 Q
section
variable {X : Cx} {e : Expr} {te : TE} {p apos cpos pos : PySem.Pos}
/-- the tuples that a view's walk makes -/
theorem pairs_laid {pins : List (Addr × Obj)} {σ : L2.St} {H : Hp} {s : Shared} {h' : Heap} {tk : Nat} {kvs : List (Key × V)} {vs : List (Key × Value)} {as : List Addr} (I : Inv X pins σ H s) (kv : KV kvs vs)
    (hk : ∀ b o, s.heap.get? b = some o → h'.get? b = some o) (hl : as.length = vs.length) (hG : PySem.W.KdxG (mixKind X.prog X.w) vs s.heap.objs.size h' as) :
    ∃ H' : Hp, (∀ b o, H b = some o → H' b = some o) ∧ Paired (fun (t : Addr) (q : Key × V) => H' t = some (.tup [kV q.1, q.2])) as kvs ∧ Inv X pins σ H' { s with heap := h', toks := tk } := by
  have lk : kvs.length = vs.length := Paired.length kv
  have nd : as.Nodup := List.Pairwise.imp (fun {a b} (h : a < b) => Nat.ne_of_lt h) hG.rise
  have new : ∀ t ∈ as, H t = none := fun t ht => I.hok.fresh (Nat.le_of_lt (hG.above t ht))
  have atP := LiI.putT_at as kvs H (by omega) nd
  have off : ∀ b, b ∉ as → LiI.putT H as kvs b = H b := fun b h1 => LiI.putT_off as kvs _ h1
  have low : ∀ b o, s.heap.get? b = some o → b ∉ as := fun b o e z => absurd (Heap.lt_size e) (Nat.not_lt.mpr (Nat.le_of_lt (hG.above b z)))
  have kp : ∀ b u, H b = some u → (LiI.putT H as kvs) b = some u := fun b u e => by
    rw [off b (fun z => by rw [new b z] at e; cases e)]
    exact e
  refine ⟨LiI.putT H as kvs, kp, atP, ?_⟩
  refine I.call' (ch := []) rfl ⟨fun b o q _ _ _ => hk b o q, fun b o q _ _ _ => ⟨o.slots, hk b o q⟩, fun b o q n _ => ?_, fun b o q _ => ⟨o, hk b o q⟩, fun b xs q => kp b _ q, fun b o u q => kp b _ q, fun b ps q => ⟨#[], by rw [kp b _ q]; simp⟩⟩ (fun b u q => ?_) I.bare fun b z => by simp at z
  · rw [off b (low b o q)]
    exact n
  · by_cases hb : b ∈ as
    · obtain ⟨j, pk, e1, e2, e3⟩ := LiI.paired_ix atP hb
      rw [e3] at q
      cases q
      obtain ⟨key, k, x, f1, f2, f3⟩ := hG.pairs j b e1
      obtain ⟨qv, g1, g2, g3⟩ := LiI.paired_get kv e2
      rw [f1] at g1
      cases g1
      have rk : RelV (kV pk.1) key := by
        rw [g2]
        exact relV_key (show keyIs k key = true from f2)
      exact ⟨by show 2 ≤ sizeLine; decide, [key, x], .cons rk (.cons g3 .nil), ⟨_, f3, rfl, _, rfl⟩⟩
    · rw [off b hb] at q
      exact (I.hok b u q).stay (fun d v _ y => hk d v y) (fun d y => kp d _ y) fun d xs y => kp d _ y
theorem paired_zip {α β γ : Type} {F : α → β → Prop} {f : γ → β} : ∀ {xs : List α} {ys : List γ}, Paired F xs (ys.map f) → (xs.zip ys).map Prod.fst = xs ∧ (xs.zip ys).map Prod.snd = ys ∧ ∀ z ∈ xs.zip ys, F z.1 (f z.2)
  | [], [], _ => ⟨rfl, rfl, fun z hz => nomatch hz⟩
  | [], _ :: _, h => nomatch h
  | _ :: _, [], h => nomatch h
  | x :: xs, y :: ys, .cons h t => by
    obtain ⟨h1, h2, h3⟩ := paired_zip t
    refine ⟨by rw [List.zip_cons_cons, List.map_cons, h1], by rw [List.zip_cons_cons, List.map_cons, h2], fun z hz => ?_⟩
    rcases List.mem_cons.mp (by rw [List.zip_cons_cons] at hz; exact hz) with rfl | hz
    · exact h
    · exact h3 z hz
theorem pair_le {x y : Int × Int} (h : ([x.1, x.2] : List Int) ≤ [y.1, y.2]) : x.1 ≤ y.1 := by
  by_cases c : x.1 ≤ y.1
  · exact c
  · exfalso
    have : ([y.1, y.2] : List Int) < [x.1, x.2] := List.Lex.rel (by omega)
    exact List.not_lt.mpr h this
/-- sorted(e.items()) -/
theorem pe_sortedItems (hc : X.calm = true) (hu : X.A.units + 64 < cLine) (he : PE X e te) (hg : Gl X "sorted") (hm : X.mg "sorted" = none) (hv : bootBuiltins "sorted" = some (.builtin "sorted")) (hbase : attributeBase e "items" X.env (eval e X.env) = eval e X.env := by rfl) (hline : (apos.endLine == cpos.line) = true := by rfl)
    (hs : starEach [.Call (.Attribute e "items" apos) [] [] cpos] X.env = (false, eval (.Call (.Attribute e "items" apos) [] [] cpos) X.env) :: starEach [] X.env := by rfl) :
    PE X (.Call (.Name "sorted" p) [.Call (.Attribute e "items" apos) [] [] cpos] [] pos) (tSortIt te) := by
  refine ⟨fun pins s σ H Q I hq => ?_⟩
  refine wpAny_Call_Name_kw (ld_blt I hg hm hv ?_)
  refine PyProof.Rows.callWith_builtin1 ?_ hs rfl
  rw [hs]
  show wpAny _ _ (spliced ((false, eval (.Call (.Attribute e "items" apos) [] [] cpos) X.env) :: backTo pos (starEach [] X.env))) _ _ s
  refine Calls.spliced_cons ?_
  refine wpAny_Call_method (T := "dict") (id := "dict.items") hbase rfl hline F.plainAttrs_dict F.slot_dict_items F.type_dict_items (thn (he.run pins s σ H _ I hq) fun u s1 ⟨x, H1, I1, rx, d, ps, ex, hd, q⟩ => ?_)
  subst ex
  obtain rfl : u = Value.ref d := rx
  obtain ⟨hz, hs0, vs, kv, hdo⟩ := I1.hok d _ hd
  obtain ⟨ep, hat⟩ := hdo.dictAt
  have lk : ps.length = vs.length := by
    have := Paired.length kv
    rwa [List.length_map] at this
  rw [List.length_map] at hz
  have I2 : Inv X pins σ H1 { s1 with heap := s1.heap.push { cls := .type "dict_items", data := .fields #[.ref d] } } := I1.kept (t' := s1.toks) fun b ob q => Heap.get?_push_of_some _ q
  refine ⟨hdo.typeIs, hdo.mapOf.noDict, ?_⟩
  show wpAny _ _ (callWith cpos (.builtin "dict.items") [.ref d] [] []) _ X.xe s1
  refine method_meetsIn F.slot_dict_items F.entry_dict_items rfl (PySem.evalArgs_none ⟨rfl, hdo.typeIs, F.args_dict_items_1 _, _, meets_dict_items (mixKind X.prog X.w) d hs0, ⟨vs, hdo⟩, ?_⟩)
  refine Calls.spliced_nil ?_
  refine PySem.Calls.call_function_entry kind_sorted plain_sorted entry_sorted (args_sorted1 _) ?_
  unfold Builtin.«sorted»
  refine wpAny_bind (m := checkCount "sorted" 1 1 _) (wpAny_pure ?_)
  refine wpAny_bind (PySem.W.kdx_collect (A := X.A.in1) (knd := mixKind X.prog X.w) (kvs := vs) (ep := ep) (I1.ok.hd hc) ⟨_, Heap.get?_push_size _ rfl, rfl, rfl⟩ (hat.push _) (by omega) fun h' tk as hk hl hG => ?_)
  obtain ⟨H', k1, k2, I3⟩ := pairs_laid (tk := tk) I2 kv hk hl hG
  obtain ⟨z1, z2, z3⟩ := paired_zip (f := entI) k2
  generalize hZ : as.zip ps = Z at z1 z2 z3
  refine wpAny_bind (wpAny_newList ?_ (by rw [List.length_map]; omega))
  have rv : Vals ((Z.map fun z => (V.ref z.1, PyData.tuple [.int z.2.1, .int z.2.2])).map Prod.fst) (as.map Value.ref) := by
    rw [List.map_map, show (Prod.fst ∘ fun z : Addr × (Int × Int) => (V.ref z.1, PyData.tuple [.int z.2.1, .int z.2.2])) = V.ref ∘ Prod.fst from rfl, ← List.map_map, z1]
    exact LiI.vals_refs as
  have e := eachV_of rv
  have hobj : (h'.push { cls := .type "list", data := .seq (as.map Value.ref).toArray }).get? h'.objs.size = some (seqObj "list" (as.map Value.ref).toArray 0) := Heap.get?_push_size _ rfl
  have kp : ∀ b o, h'.get? b = some o → (h'.push { cls := .type "list", data := .seq (as.map Value.ref).toArray }).get? b = some o := fun b o e => Heap.get?_push_of_some _ e
  have lt0 : ∀ b o, h'.get? b = some o → b ≠ h'.objs.size := fun b o e => Nat.ne_of_lt (Heap.lt_size e)
  generalize hh2 : h'.push { cls := .type "list", data := .seq (as.map Value.ref).toArray } = h2 at hobj kp ⊢
  have er : PySem.W.EachIs (fun v (b : V × PyData) => ∃ as, Reads h' v b.2 as) (as.map Value.ref) (Z.map fun z => (V.ref z.1, PyData.tuple [.int z.2.1, .int z.2.2])) := (PySem.W.each_mem e).mono fun v b ⟨r1, hb⟩ => by
    obtain ⟨z, hz, rfl⟩ := List.mem_map.mp hb
    exact Dp.reads I3 _ _ v (.tup (SqT.of (z3 z hz)) (.cons (.int _) (.cons (.int _) .nil))) r1
  have er' : PySem.W.EachIs (fun v (b : V × PyData) => ∃ bs, Reads (PySem.W.sortingHeap h2 h'.objs.size (as.map Value.ref)) v b.2 bs) (as.map Value.ref) (Z.map fun z => (V.ref z.1, PyData.tuple [.int z.2.1, .int z.2.2])) := er.mono fun _ _ ⟨bs, r⟩ => ⟨bs, PyProof.Rows.Reads.keeps (fun b o hb => PySem.W.sortingHeap_old (lt0 _ _ hb) (kp _ _ hb)) r⟩
  have hal : PySem.W.AllAlike ((Z.map fun z => (V.ref z.1, PyData.tuple [.int z.2.1, .int z.2.2])).map Prod.snd) := by
    intro x hx y hy
    rw [List.map_map] at hx hy
    obtain ⟨z, _, rfl⟩ := List.mem_map.mp hx
    obtain ⟨z', _, rfl⟩ := List.mem_map.mp hy
    simp [PySem.W.alike, PySem.W.alikeAll]
  have hlen : (as.map Value.ref).length ≤ sizeLine := by rw [List.length_map]; omega
  have S := sortsAt_tuples (prog := X.prog) (w := X.w) (A := X.A.in1.in1) (s := { s1 with heap := PySem.W.sortingHeap h2 h'.objs.size (as.map Value.ref), toks := tk }) (PySem.W.each_map (R := fun v d => ∃ bs, Reads (PySem.W.sortingHeap h2 h'.objs.size (as.map Value.ref)) v d bs) Prod.snd er') hal (fun d hd => by
      obtain ⟨b, hb, rfl⟩ := List.mem_map.mp hd
      obtain ⟨z, hz, rfl⟩ := List.mem_map.mp hb
      exact ⟨_, rfl⟩) (fun d hd => by
      obtain ⟨b, hb, rfl⟩ := List.mem_map.mp hd
      obtain ⟨z, hz, rfl⟩ := List.mem_map.mp hb
      show X.A.units + 1 + 1 + (PyData.tuple [.int z.2.1, .int z.2.2]).depth < cLine
      simp only [PyData.depth, PyData.depthAll]
      omega)
  have out := PySem.W.sortVals_data false e er' hal
  have rv2 := eachV_to out
  obtain ⟨ep2, he'⟩ := PyProof.Rows.sortedHeap_at (out := (PySem.W.sortVals (PySem.W.dataKind (PySem.W.sortingHeap h2 h'.objs.size (as.map Value.ref)) ((Z.map fun z => (V.ref z.1, PyData.tuple [.int z.2.1, .int z.2.2])).map Prod.snd)) false (as.map Value.ref) (as.map Value.ref)).toArray) hobj
  have old : ∀ b o, h'.get? b = some o → (sortedHeap h2 h'.objs.size (as.map Value.ref) (PySem.W.sortVals (PySem.W.dataKind (PySem.W.sortingHeap h2 h'.objs.size (as.map Value.ref)) ((Z.map fun z => (V.ref z.1, PyData.tuple [.int z.2.1, .int z.2.2])).map Prod.snd)) false (as.map Value.ref) (as.map Value.ref)).toArray).get? b = some o := fun b o hb => by
    rw [PyProof.Rows.sortedHeap_old (lt0 _ _ hb) (Heap.lt_size (kp _ _ hb))]
    exact kp _ _ hb
  have hmap : (Z.map fun z => (V.ref z.1, PyData.tuple [.int z.2.1, .int z.2.2])).mergeSort (PySem.W.dataLe false Prod.snd) = (Z.mergeSort fun x y => decide (([x.2.1, x.2.2] : List Int) ≤ [y.2.1, y.2.2])).map fun z => (V.ref z.1, PyData.tuple [.int z.2.1, .int z.2.2]) := by
    symm
    refine List.map_mergeSort fun x _ y _ => ?_
    have z := congrFun (congrFun (dataLe_tups (β := Addr × (Int × Int)) fun z => [z.2.1, z.2.2]) x) y
    exact z.symm
  rw [hmap, List.map_map] at rv2
  have pm : (Z.mergeSort fun x y => decide (([x.2.1, x.2.2] : List Int) ≤ [y.2.1, y.2.2])).Perm Z := List.mergeSort_perm _ _
  have pw := List.pairwise_mergeSort (le := fun x y : Addr × (Int × Int) => decide (([x.2.1, x.2.2] : List Int) ≤ [y.2.1, y.2.2])) (fun a b c h1 h2 => decide_eq_true (List.le_trans (of_decide_eq_true h1) (of_decide_eq_true h2))) (fun a b => by
    rw [Bool.or_eq_true]
    rcases List.le_total ([a.2.1, a.2.2] : List Int) [b.2.1, b.2.2] with h | h
    · exact .inl (decide_eq_true h)
    · exact .inr (decide_eq_true h)) Z
  generalize (Z.mergeSort fun x y => decide (([x.2.1, x.2.2] : List Int) ≤ [y.2.1, y.2.2])) = Z' at rv2 pm pw
  have rv3 : Vals (Z'.map fun z => V.ref z.1) _ := rv2
  refine wpAny_bind (wpAny_holding (wpAny_call_entry_kw slot_list_sort ⟨_, hobj, rfl⟩ entry_list_sort ?body (args_list_sort _)))
  case body =>
    show wpAny (model X.prog X.w) X.A.in1.in1 (Builtin.«list.sort» ⟨[.ref h'.objs.size], []⟩) _ _ _
    refine wpAny_mono (PySem.W.list_sort_vals (s := { s1 with heap := h2, toks := tk }) (P := fun f s' => f = .done (.ret .none) ∧ EP X pins σ Q (.ref h'.objs.size) s') hobj S hlen ⟨rfl, ?_⟩) (fun f s' hf => ?_) fun _ _ e => e
    · refine ⟨.ref h'.objs.size, upd H' h'.objs.size (.lst (Z'.map fun z => V.ref z.1)), I3.laid (t' := tk) old (Nat.le_refl _) ⟨?_, _, ep2, rv3, he'⟩, rfl, ?_⟩
      · rw [List.length_map, pm.length_eq, ← List.length_map (f := Prod.snd), z2]
        exact hz
      · have hf : H' h'.objs.size = none := I3.hok.fresh (Nat.le_refl _)
        have e4 : ∀ b o, H' b = some o → upd H' h'.objs.size (.lst (Z'.map fun z => V.ref z.1)) b = some o := fun b o hb => by rw [upd_ne (ne_of_none hb hf)]; exact hb
        refine q _ _ Z' (fun b o hb => e4 _ _ (k1 b o hb)) ?_ upd_same ?_ ?_ (fun z hz => e4 _ _ (z3 z (pm.mem_iff.mp hz)))
        · cases hq : H1 h'.objs.size with
          | none => rfl
          | some o =>
            rw [k1 _ _ hq] at hf
            cases hf
        · rw [← z2]
          exact pm.map _
        · rw [List.pairwise_map]
          exact pw.imp fun h => pair_le (of_decide_eq_true h)
    · obtain ⟨rfl, hq⟩ := hf
      exact ⟨_, rfl, wpAny_pure ⟨_, rfl, hq⟩⟩
end
/-! ### tuples that are known to be plain: tuple(list), dict(tuple of pairs) -/
structure FzT (H : Hp) (p : Addr) (ys : List V) : Prop where
  ex : ∃ o : Obj, H p = some (.frz o (.tup ys)) ∧ o.cls = .type "tuple" ∧ o.dict = none
theorem FzT.sq {K : PySem.W.Frag} {H : Hp} {p : Addr} {ys : List V} (h : FzT H p ys) : SqT K H p ys := let ⟨o, h1, _⟩ := h.ex; .inl (.inr ⟨o, h1⟩)
theorem FzT.keep {H H' : Hp} {p : Addr} {ys : List V} (h : FzT H p ys) (k : ∀ u, H p = some u → H' p = some u) : FzT H' p ys := let ⟨o, h1, h2⟩ := h.ex; ⟨o, k _ h1, h2⟩
theorem FzT.same {H H' : Hp} {p : Addr} {ys : List V} (h : FzT H p ys) (e : Same H H') : FzT H' p ys := h.keep fun u hu => e _ _ hu
def rTupF (K : PySem.W.Frag) : List V → Hp → VK → Prop := fun xs H Q => ∃ p ys, xs = [.ref p] ∧ SqL K H p ys ∧ ∀ (l : Addr) (o : Obj), H l = none → o.cls = .type "tuple" → o.dict = none → Q (.ref l) (upd H l (.frz o (.tup ys)))
def rDictF (K : PySem.W.Frag) : List V → Hp → VK → Prop := fun xs H Q => ∃ (a : Addr) (ps : List Addr) (kvs : List (Key × V)), xs = [.ref a] ∧ FzT H a (ps.map V.ref) ∧ Paired (fun p kv => SqT K H p [kV kv.1, kv.2]) ps kvs ∧
  ∀ p, H p = none → Q (.ref p) (upd H p (.dK (mergeK [] kvs)))
section
variable {X : Cx}
theorem call_tuple_F : CallR X (.type "tuple") (rTupF X.K) := by
  intro pins s σ H xs us Q I r h
  obtain ⟨p, ys, rfl, hq, q⟩ := h
  obtain ⟨u, rfl, rx⟩ := vals1 r
  cases rx
  obtain ⟨its, r', pl, hz⟩ := I.list hq
  have hlen := r'.length
  refine call_tuple_list pl.isList (fun h' kp => ?_) (by simp only [List.size_toArray] <;> omega)
  have I1 : Inv X pins σ H { s with heap := h' } := I.kept (t' := s.toks) kp
  have I2 : Inv X pins σ (upd H h'.objs.size (.frz { cls := .type "tuple", data := .seq its.toArray } (.tup ys))) { s with heap := h'.push { cls := .type "tuple", data := .seq its.toArray } } :=
    I1.laid (t' := s.toks) (fun b o e => Heap.get?_push_of_some _ e) (Nat.le_refl _) (show ObjOk X.prog X.w _ _ _ (.frz _ (.tup ys)) from ⟨Heap.get?_push_size _ rfl, hz, its, r', IsTup.new _ _⟩)
  exact ⟨.ref h'.objs.size, _, I2, rfl, q _ _ (I1.hok.fresh (Nat.le_refl _)) rfl rfl⟩
theorem call_dictF (hcalm : X.calm = true) : CallR X (.type "dict") (rDictF X.K) := by
  intro pins s σ H xs us Q I r q
  obtain ⟨a, ps, kvs, ex, ⟨ob, hF, hcls, hdn⟩, hp, q⟩ := q
  subst ex
  obtain ⟨u, eu, rx⟩ := vals1 r
  subst eu
  cases rx
  obtain ⟨hob, hz, its, rv, o2, ho2, hc2, n, hd2⟩ := (show ObjOk X.prog X.w H s.heap a (.frz ob (.tup (ps.map V.ref))) from I.hok a _ hF)
  rw [hob] at ho2
  cases ho2
  have ei := refs_at rv
  subst ei
  rw [List.length_map] at hz
  obtain ⟨prs, rel, hl, hpr⟩ := pairs_of I hp
  -- the keys' values, at their places
  have hk : ∀ j, j < prs.length → ∃ (b : Addr) (u : Value), ps[j]? = some b ∧ ∀ q : Key × Value, prs[j]? = some q → IsTup s.heap b #[u, q.2] ∧ keyIs q.1 u = true := fun j hj => by
    obtain ⟨b, u, e1, e2, e3⟩ := hpr j prs[j] (List.getElem?_eq_getElem hj)
    refine ⟨b, u, e1, fun q hq => ?_⟩
    rw [List.getElem?_eq_getElem hj] at hq
    cases hq
    exact ⟨e2, e3⟩
  let kf : Nat → Value := fun j => if h : j < prs.length then (hk j h).choose_spec.choose else .none
  let ks : List (Value × Value) := (List.range prs.length).map fun j => (kf j, (prs[j]?.map Prod.snd).getD .none)
  have hks : ∀ (j : Nat) (k v : Value), ks[j]? = some (k, v) → ∃ (b : Addr) (q : Key × Value), ps[j]? = some b ∧ prs[j]? = some q ∧ v = q.2 ∧ IsTup s.heap b #[k, v] ∧ keyIs q.1 k = true := by
    intro j k v h
    have hj : j < prs.length := by
      have := (List.getElem?_eq_some_iff.mp h).1
      rwa [List.length_map, List.length_range] at this
    rw [List.getElem?_map, List.getElem?_range hj] at h
    have h' := Option.some.inj h
    have h1 : kf j = k := congrArg Prod.fst h'
    have h2 : (prs[j]?.map Prod.snd).getD .none = v := congrArg Prod.snd h'
    have e := List.getElem?_eq_getElem hj
    rw [e] at h2
    have h2' : prs[j].2 = v := h2
    have hkf : kf j = (hk j hj).choose_spec.choose := dif_pos hj
    obtain ⟨c1, c2⟩ := (hk j hj).choose_spec.choose_spec
    obtain ⟨c3, c4⟩ := c2 _ e
    rw [← hkf, h1, h2'] at c3
    rw [← hkf, h1] at c4
    exact ⟨_, _, c1, e, h2'.symm, c3, c4⟩
  have hlk : ks.length = prs.length := by rw [List.length_map, List.length_range]
  have hadr : ∀ j, j < ps.length → ∃ b, ps[j]? = some b := fun j hj => ⟨_, List.getElem?_eq_getElem hj⟩
  refine PySem.call_dict_pairs (knd := mixKind X.prog X.w) (kvs := prs) (PySem.PairArg.tuple a (ps.map Value.ref).toArray (fun j => (ps[j]?).getD 0) ks) (I.ok.hd hcalm) ⟨⟨ob, n, hob, hcls, hdn, hd2⟩, ⟨by rw [List.size_toArray, List.length_map, hlk, hl], fun j k v h => ?_⟩⟩ ⟨hlk.symm, fun i key v h => ?_⟩ (by rw [hlk, hl]; exact hz) fun h' tk hd' hk' => ?_
  · obtain ⟨b, q, e1, e2, e3, e4, e5⟩ := hks j k v h
    refine ⟨by simp [e1], .inl ?_⟩
    show s.heap.IsTuple ((ps[j]?).getD 0) #[k, v]
    rw [e1]
    exact e4
  · obtain ⟨b, q, e1, e2, e3, e4, e5⟩ := hks i key v h
    exact ⟨q.1, by rw [e2, e3], e5⟩
  · have hm : (s.heap.objs.size == sysModules) = false := beq_eq_false_iff_ne.mpr (Nat.ne_of_gt I.big)
    have hlen : (mergeK [] kvs).length ≤ sizeLine := by
      refine Nat.le_trans (length_mergeK kvs []) ?_
      rw [List.length_nil, Nat.zero_add, rel.length, hl]
      exact hz
    exact ⟨.ref s.heap.objs.size, upd H s.heap.objs.size (.dK (mergeK [] kvs)), I.laid (t' := tk) (fun b o e => hk' b o (fun z => nomatch z) e) (Nat.le_refl _) (show ObjOk X.prog X.w _ _ _ (.dK (mergeK [] kvs)) from ⟨hlen, hm, merged [] prs, KV.merge rel .nil, hd'⟩), rfl, q _ (I.hok.fresh (Nat.le_refl _))⟩
end
/-! ### a comprehension within a comprehension -/
theorem relabel_free {env : Env} : ∀ {names : List (Str × NameKind)} {x : Str}, names.lookup x = some .cell ∨ names.lookup x = some .free →
    (names.map fun (n, k) => if (k == NameKind.free && env.scope.kind == .function && env.kindOf n == some .cell) then (n, NameKind.cell) else (n, k)).lookup x = some .cell ∨
    (names.map fun (n, k) => if (k == NameKind.free && env.scope.kind == .function && env.kindOf n == some .cell) then (n, NameKind.cell) else (n, k)).lookup x = some .free
  | [], _, h => by simp at h
  | (n, k) :: r, x, h => by
    have ih := @relabel_free env r x
    show List.lookup x ((if (k == NameKind.free && env.scope.kind == .function && env.kindOf n == some .cell) = true then (n, NameKind.cell) else (n, k)) :: _) = _ ∨ List.lookup x ((if (k == NameKind.free && env.scope.kind == .function && env.kindOf n == some .cell) = true then (n, NameKind.cell) else (n, k)) :: _) = _
    cases hx : x == n with
    | true =>
      rw [List.lookup_cons, hx] at h
      by_cases c : (k == NameKind.free && env.scope.kind == .function && env.kindOf n == some .cell) = true
      · rw [if_pos c, List.lookup_cons, hx]
        exact .inl rfl
      · rw [if_neg c, List.lookup_cons, hx]
        exact h
    | false =>
      rw [List.lookup_cons, hx] at h
      by_cases c : (k == NameKind.free && env.scope.kind == .function && env.kindOf n == some .cell) = true
      · rw [if_pos c, List.lookup_cons, hx]
        exact ih h
      · rw [if_neg c, List.lookup_cons, hx]
        exact ih h
theorem blkOk_in {N : List Str} {sc scope : Scope} {own : List (Str × Nat)} {env : Env} (h : blkC N sc scope own = true) : BlkOk N (relabel sc env) scope own := by
  have b := blkOk_by h
  exact ⟨b.kind, b.uniq, b.ix, fun y hy e => relabel_free (b.free y hy e), b.own⟩
end Own

namespace Own
open PySem PySem.Spec PyProof.Rows L2
/-! ### tuples that are known to be plain: displays, sums, cuts -/
def tTupF (t : TA) : TE := fun σ H Q => t σ H fun xs H1 => xs.length ≤ sizeLine ∧ ∀ (p : Addr) (o : Obj), H1 p = none → o.cls = .type "tuple" → o.dict = none → Q (.ref p) (upd H1 p (.frz o (.tup xs)))
def rCatF (K : PySem.W.Frag) : R2 := fun x y H Q => ∃ a b xs ys, x = .ref a ∧ y = .ref b ∧ SqT K H a xs ∧ SqT K H b ys ∧ xs.length + ys.length ≤ sizeLine ∧
  (xs = [] → Q (.ref b) H) ∧ (xs ≠ [] → ys = [] → Q (.ref a) H) ∧ (xs ≠ [] → ys ≠ [] → ∀ (p : Addr) (o : Obj), H p = none → o.cls = .type "tuple" → o.dict = none → Q (.ref p) (upd H p (.frz o (.tup (xs ++ ys)))))
def rSlF (K : PySem.W.Frag) : V → Option Int → Option Int → Hp → VK → Prop := fun x lo hi H Q => ∃ a xs, x = .ref a ∧ SqT K H a xs ∧
  (HT.sIx xs.length 0 lo = 0 ∧ HT.sIx xs.length xs.length hi = xs.length → Q (.ref a) H) ∧ (¬ (HT.sIx xs.length 0 lo = 0 ∧ HT.sIx xs.length xs.length hi = xs.length) → ∀ (p : Addr) (o : Obj), H p = none → o.cls = .type "tuple" → o.dict = none → Q (.ref p) (upd H p (.frz o (.tup (cutV xs lo hi)))))
theorem FzT.new {H : Hp} {p : Addr} {o : Obj} {xs : List V} (h1 : o.cls = .type "tuple") (h2 : o.dict = none) : FzT (upd H p (.frz o (.tup xs))) p xs := ⟨o, upd_same, h1, h2⟩
theorem catF_go {K : PySem.W.Frag} {H : Hp} {a b : Addr} {xs ys : List V} {Q : VK} (ha : FzT H a xs) (hb : FzT H b ys) (hl : xs.length + ys.length ≤ 100000)
    (k : ∀ (p : Addr) (H' : Hp), Same H H' → FzT H' p (xs ++ ys) → Q (.ref p) H') : rCatF K (.ref a) (.ref b) H Q := by
  refine ⟨a, b, xs, ys, rfl, rfl, ha.sq, hb.sq, Nat.le_trans hl (by decide), fun h => ?_, fun _ h => ?_, fun _ _ p o hp h1 h2 => ?_⟩
  · subst h
    exact k b H (Same.refl H) hb
  · subst h
    exact k a H (Same.refl H) (by rw [List.append_nil]; exact ha)
  · exact k p _ (same_upd _ hp) (.new h1 h2)
theorem slF_go {K : PySem.W.Frag} {H : Hp} {a : Addr} {xs : List V} {lo hi : Option Int} {Q : VK} (ha : FzT H a xs)
    (k : ∀ (p : Addr) (H' : Hp), Same H H' → FzT H' p (cutV xs lo hi) → Q (.ref p) H') : rSlF K (.ref a) lo hi H Q := by
  refine ⟨a, xs, rfl, ha.sq, fun h => ?_, fun _ p o hp h1 h2 => k p _ (same_upd _ hp) (.new h1 h2)⟩
  refine k a H (Same.refl H) ?_
  unfold cutV
  rw [h.1, h.2, List.drop_zero, Nat.sub_zero, List.take_length]
  exact ha
section
variable {X : Cx} {es : List Expr} {t : TA} {pos : PySem.Pos}
theorem pe_tupF {x1} (h : PA X es t) : PE X (.Tuple es x1 pos) (tTupF t) := by
  refine ⟨fun pins s σ H Q I hq => ?_⟩
  refine wpAny_Tuple_spliced (thn (h.run pos pins s σ H _ I hq) fun us s1 ⟨xs, H1, I1, r, z, q⟩ => ⟨by rw [← r.length]; exact z, ?_⟩)
  have hf : H1 s1.heap.objs.size = none := I1.hok.fresh (Nat.le_refl _)
  have I2 : Inv X pins σ (upd H1 s1.heap.objs.size (.frz { cls := .type "tuple", data := .seq us.toArray } (.tup xs))) { s1 with heap := s1.heap.push { cls := .type "tuple", data := .seq us.toArray } } :=
    I1.laid (t' := s1.toks) (fun b u e => Heap.get?_push_of_some _ e) (Nat.le_refl _) (show ObjOk X.prog X.w _ _ _ (.frz _ (.tup xs)) from ⟨Heap.get?_push_size _ rfl, z, us, r, IsTup.new _ _⟩)
  exact ⟨.ref s1.heap.objs.size, _, I2, rfl, q _ _ hf rfl rfl⟩
theorem op_catF : OpR X (binaryOp .Add) (rCatF X.K) := by
  intro pins s σ H x y v u Q I rx ry h
  obtain ⟨a, b, xs, ys, rfl, rfl, ha, hb, hz, q0, q1, q2⟩ := h
  cases rx
  cases ry
  obtain ⟨its, r1, p1, _⟩ := I.tuple ha
  obtain ⟨its2, r2, p2, _⟩ := I.tuple hb
  by_cases hx : xs = []
  · subst hx
    cases r1
    exact cat_tup0 p1 p2 ⟨.ref b, H, I, rfl, q0 rfl⟩
  · refine HT.cat_tup p1 p2 (fun z => hx (r1.nil_iff.mp z)) (fun z => ⟨.ref a, H, I, rfl, q1 hx (r2.nil_iff.mp z)⟩) (fun z => ?_) (by rw [← r1.length, ← r2.length]; exact hz)
    have I2 : Inv X pins σ (upd H s.heap.objs.size (.frz { cls := .type "tuple", data := .seq (its ++ its2).toArray } (.tup (xs ++ ys)))) { s with heap := s.heap.push { cls := .type "tuple", data := .seq (its ++ its2).toArray } } :=
      I.laid (t' := s.toks) (fun b u e => Heap.get?_push_of_some _ e) (Nat.le_refl _) (show ObjOk X.prog X.w _ _ _ (.frz _ (.tup (xs ++ ys))) from ⟨Heap.get?_push_size _ rfl, by rw [List.length_append]; exact hz, _, r1.append r2, IsTup.new _ _⟩)
    exact ⟨.ref s.heap.objs.size, _, I2, rfl, q2 hx (fun w => z (r2.nil_iff.mpr w)) _ _ (I.hok.fresh (Nat.le_refl _)) rfl rfl⟩
theorem sl_tupF : SlR X (rSlF X.K) := by
  intro pins s σ H x v vl vu lo hi sl Q I rx hs pl pu h
  obtain ⟨a, xs, rfl, hx, q1, q2⟩ := h
  cases rx
  obtain ⟨its, r, ht, hz⟩ := I.tuple hx
  have hlen : its.toArray.size = xs.length := by rw [List.size_toArray]; exact r.length.symm
  refine ⟨"tuple", _, PyProof.Rows.slot_tuple_getitem.lookup, ht.typeIs, ?_⟩
  by_cases hw : HT.sIx xs.length 0 lo = 0 ∧ HT.sIx xs.length xs.length hi = xs.length
  · exact getItem_tuple_whole ht hs pl pu (by rw [hlen]; exact hw) ⟨.ref a, H, I, rfl, q1 hw⟩
  · refine HT.getItem_tuple_cut ht hs pl pu (by rw [hlen]; exact hw) ?_ (by rw [hlen]; exact hz)
    rw [hlen]
    have I2 : Inv X pins σ (upd H s.heap.objs.size (.frz { cls := .type "tuple", data := .seq ((its.drop (HT.sIx xs.length 0 lo)).take (HT.sIx xs.length xs.length hi - HT.sIx xs.length 0 lo)).toArray } (.tup (cutV xs lo hi)))) { s with heap := s.heap.push { cls := .type "tuple", data := .seq ((its.drop (HT.sIx xs.length 0 lo)).take (HT.sIx xs.length xs.length hi - HT.sIx xs.length 0 lo)).toArray } } :=
      I.laid (t' := s.toks) (fun b u e => Heap.get?_push_of_some _ e) (Nat.le_refl _) (show ObjOk X.prog X.w _ _ _ (.frz _ (.tup (cutV xs lo hi))) from ⟨Heap.get?_push_size _ rfl, Nat.le_trans (cutV_length xs lo hi) hz, _, (r.drop (HT.sIx xs.length 0 lo)).take (HT.sIx xs.length xs.length hi - HT.sIx xs.length 0 lo), IsTup.new _ _⟩)
    exact ⟨.ref s.heap.objs.size, _, I2, rfl, q2 hw _ _ (I.hok.fresh (Nat.le_refl _)) rfl rfl⟩
end
end Own

namespace Own
open PySem PySem.Spec PyProof.Rows L2
/-! ### a walk along a list, whatever its body is -/
theorem its_list {K : PySem.W.Frag} {a : Addr} {xs : List V} {H0 : Hp} {Qd : Hp → Prop} {body : V → Hp → (Hp → Prop) → Prop} (Pv : Nat → Hp → Prop) (h0 : Pv 0 H0) (hl : ∀ i H, i ≤ xs.length → Pv i H → SqL K H a xs)
    (hs : ∀ i x H, xs[i]? = some x → Pv i H → body x H (Pv (i + 1))) (hd : ∀ H, Pv xs.length H → Qd H) :
    ∃ W : Nat → Nat → Hp → Prop, (∃ m, W 0 m H0) ∧ ∀ i m H, W i m H →
      ((Itl K a).stop i H ∧ Qd H) ∨ ((Itl K a).go i H ∧ ∃ Nx : Hp → Prop, (∀ H', Nx H' → ∃ m', m' < m ∧ W (i + 1) m' H') ∧ ∀ x H', (Itl K a).yld i H x H' → body x H' Nx) := by
  refine ⟨fun i m H => m = xs.length - i ∧ i ≤ xs.length ∧ Pv i H, ⟨xs.length, by simp, Nat.zero_le _, h0⟩, ?_⟩
  rintro i m H ⟨rfl, hi, p⟩
  have q := hl i H hi p
  by_cases hlt : i < xs.length
  · refine .inr ⟨⟨xs, xs[i], q, by simp [hlt]⟩, Pv (i + 1), fun H' p' => ⟨xs.length - (i + 1), by omega, rfl, hlt, p'⟩, fun x H' y => ?_⟩
    obtain ⟨e, y⟩ := y
    subst e
    exact hs i x _ (y xs q) p
  · have e : i = xs.length := by omega
    subst e
    exact .inl ⟨⟨xs, q, Nat.le_refl _⟩, hd H p⟩
/-! ### sorted(xs, key=len), xs a list of lists or tuples -/
def rSortedLen (K : PySem.W.Frag) : List V → Hp → VK → Prop := fun vs H Q => ∃ (a : Addr) (bs : List (V × Int)), vs = [V.ref a] ∧ SqL K H a (bs.map Prod.fst) ∧
  (∀ p ∈ bs, ∃ (b : Addr) (ys : List V), p.1 = .ref b ∧ (SqL K H b ys ∨ SqT K H b ys) ∧ p.2 = (ys.length : Int)) ∧
  ∀ (q : Addr), H q = none → Q (.ref q) (upd H q (.lst ((bs.mergeSort fun x y => decide (x.2 ≤ y.2)).map Prod.fst)))
def tSortLen (K : PySem.W.Frag) (ta : TA) : TE := fun σ H Q => ta σ H fun vs H1 => rSortedLen K vs H1 Q
section
variable {X : Cx}
/-- len of a list or tuple, at any depth of the run -/
theorem len_any {A : Around} {pins : List (Addr × Obj)} {s : Shared} {σ : L2.St} {H : Hp} {b : Addr} {ys : List V} {Q : Value → Shared → Prop} {E : Value → Shared → Prop} (I : Inv X pins σ H s) (hq : SqL X.K H b ys ∨ SqT X.K H b ys)
    (h : ∀ (t k : Nat), Q (.int (ys.length : Int) t) { s with toks := k }) : wpAny (model X.prog X.w) A (call (.builtin "len") [.ref b]) Q E s := by
  have hn := line63
  rcases hq with hq | hq
  · obtain ⟨its, r', pl, hz⟩ := I.list hq
    have hlen := r'.length
    refine Calls.call_len_list pl.isList (by simp only [List.size_toArray] <;> omega) ?_
    rw [List.size_toArray, ← hlen]
    exact h _ _
  · obtain ⟨its, r', pl, hz⟩ := I.tuple hq
    have hlen := r'.length
    refine len_tuple pl (by simp only [List.size_toArray] <;> omega) ?_
    rw [List.size_toArray, ← hlen]
    exact h _ _
/-- the sort behind the list's being emptied -/
theorem len_rest (hun : X.A.units + 64 < cLine) {pins : List (Addr × Obj)} {s : Shared} {σ : L2.St} {H : Hp} {d c : Addr} {ep : Nat} {bs : List (V × Int)} {its : List Value}
    {G : PySem.Fin → Shared → Prop} {E' : Value → Shared → Prop} (I : Inv X pins σ H s) (fc : ∀ H1 : Hp, H1 c = none → FpOk X pins H1 c) (fd' : ∀ H1 : Hp, H1 d = none → FpOk X pins H1 d) (hc : H c = none) (hd : H d = none)
    (oc : s.heap.get? c = some (seqObj "list" #[] 0)) (od : s.heap.get? d = some (seqObj "list" #[] ep)) (hcd : c ≠ d) (each : PySem.W.EachIs (fun v (p : V × Int) => L2.RelV p.1 v) its bs) (hzl : its.length ≤ sizeLine)
    (turn : ∀ p ∈ bs, ∃ (b : Addr) (ys : List V), p.1 = .ref b ∧ (SqL X.K H b ys ∨ SqT X.K H b ys) ∧ p.2 = (ys.length : Int))
    (done : ∀ (s' : Shared), Inv X pins σ (upd H d (.lst ((bs.mergeSort fun x y => decide (x.2 ≤ y.2)).map Prod.fst))) s' → G (.done (.ret .none)) s') :
    wpAny (model X.prog X.w) X.A.in1.in1 (PyProof.Rows.ksk_rest d (.builtin "len") false its.toArray ep (.ref c)) G E' s := by
  have hlen := each.length
  unfold PyProof.Rows.ksk_rest
  refine wpAny_bind (wpAny_rule ?_)
  rw [List.forIn_toArray]
  refine wpAny_bind (PyProof.Rows.ksk_fold (fun j s' => ∃ (kA : Array Value) (n : Nat), Inv X pins σ H s' ∧ s'.heap.get? c = some (seqObj "list" kA n) ∧ s'.heap.get? d = some (seqObj "list" #[] ep) ∧
    PySem.W.EachIs (fun v (n : PyData) => ∃ i t, v = Value.int i t ∧ n = .int i) kA.toList ((bs.take j).map fun p => PyData.int p.2)) its 0 s ⟨#[], 0, I, oc, od, .nil⟩ ?_ ?_)
  · rintro j v s' hv ⟨kA, n, I1, oc1, od1, ks⟩
    rw [Nat.zero_add] at ks ⊢
    have hj : j < bs.length := by rw [← hlen]; exact (List.getElem?_eq_some_iff.mp hv).1
    obtain ⟨p, hp⟩ : ∃ p, bs[j]? = some p := ⟨_, List.getElem?_eq_getElem hj⟩
    have rp : L2.RelV p.1 v := each.zip (v, p) (List.mem_of_getElem? (i := j) (by rw [List.getElem?_zip_eq_some]; exact ⟨hv, hp⟩))
    obtain ⟨b, ys, e1, hq, e2⟩ := turn p (List.mem_of_getElem? hp)
    rw [e1] at rp
    obtain rfl : v = Value.ref b := rp
    have kl : kA.size = j := by
      have z := ks.length
      rw [Array.length_toList, List.length_map, List.length_take] at z
      omega
    refine wpAny_bind (wpAny_attempt (len_any I1 hq fun t k => ?_))
    obtain ⟨m, oc3⟩ : ∃ m, (s'.heap.update c (Obj.mapSeq (·.push (.int (ys.length : Int) t)))).get? c = some (seqObj "list" (kA.push (.int (ys.length : Int) t)) m) := ⟨_, get?_update_seq oc1 (·.push (.int (ys.length : Int) t))⟩
    have jz : kA.size ≤ sizeLine := by rw [kl]; exact Nat.le_trans (Nat.le_of_lt hj) (by rw [← hlen]; exact hzl)
    refine wpAny_bind (listUpdate_at (s := { s' with toks := k }) oc1 rfl (wpAny_pure ⟨rfl, kA.push (.int (ys.length : Int) t), m, ?_, oc3, (Heap.get?_update_ne _ _ _ _ hcd.symm).trans od1, ?_⟩) jz (by rw [Array.size_push]; exact Nat.succ_le_succ jz))
    · exact (I1.tok k).turnedL (t' := k) (ch := [c]) (fun b o nb z => (Heap.get?_update_ne _ _ _ _ (fun w => nb (by simp [w]))).trans z) fun b mb => by
        rw [List.mem_singleton.mp mb]
        exact fc H hc
    · rw [take_one hp, List.map_append, Array.toList_push, List.map_cons, List.map_nil, e2]
      exact each_more ks ⟨_, _, rfl, rfl⟩
  · rintro s' ⟨kA, n, I1, oc1, od1, ks⟩
    rw [Nat.zero_add, hlen, List.take_length] at ks
    have kl : kA.size = its.length := by
      have z := ks.length
      rw [Array.length_toList, List.length_map] at z
      omega
    refine wpAny_bind (listItems_at oc1 rfl ?_)
    have rd : PySem.W.EachIs (fun v n => ∃ as, Reads s'.heap v n as) kA.toList (bs.map fun p => PyData.int p.2) := ks.mono fun v n ⟨i, t, e1, e2⟩ => by
      subst e1
      subst e2
      exact ⟨[], .int i t⟩
    have al : PySem.W.AllAlike (bs.map fun p => PyData.int p.2) := fun x hx y hy => by
      obtain ⟨p, _, rfl⟩ := List.mem_map.mp hx
      obtain ⟨q, _, rfl⟩ := List.mem_map.mp hy
      rfl
    have so : PySem.W.Sortable (bs.map fun p => PyData.int p.2) := .inr fun x hx => by
      obtain ⟨p, _, rfl⟩ := List.mem_map.mp hx
      exact ⟨fun z => (nomatch z), fun _ z => (nomatch z)⟩
    have S := PySem.W.SortsAt.data (prog := X.prog) (w := X.w) (A := X.A.in1.in1) (s := s') rd al so fun x hx => by
      obtain ⟨p, _, rfl⟩ := List.mem_map.mp hx
      show X.A.units + 1 + 1 + (PyData.int p.2).depth < cLine
      rw [PyData.depth]
      omega
    refine PySem.W.keyH_end (h₁ := hole s'.heap c) (fun b o nb z => ?_) (hole_at _ _) oc1 od1 hcd S kl hzl fun h2 tk m kp od2 => ?_
    · have bc : b ≠ c := fun w => by
        rw [w, hole_at] at z
        cases z
      exact (hole_ne bc).symm.trans z
    · have J : Inv X pins σ H { s' with heap := h2, toks := tk } := I1.turnedL (ch := [c, d]) (fun b o nb z => kp b o (fun w => nb (by simp [w])) ((hole_ne fun w => nb (by simp [w])).trans z)) fun b mb => by
        rcases List.mem_cons.mp mb with w | w
        · rw [w]
          exact fc H hc
        · rw [List.mem_singleton.mp w]
          exact fd' H hd
      have ko : PySem.W.KeyedOut false (bs.map fun p => PyData.int p.2) its (PySem.W.sortVals (PySem.W.dataKind s'.heap (bs.map fun p => PyData.int p.2)) false kA.toList its) := ⟨_, _, al, rfl, rd⟩
      have out := PySem.W.keyedOut_each (fun p : V × Int => PyData.int p.2) ko each
      rw [PySem.W.dataLe_int] at out
      have rv := each_vals out
      refine done _ (J.take (h' := h2) (t' := tk) (fun b ob _ z => z) (fd' H hd) ⟨?_, _, m, rv, od2⟩)
      rw [rv.length, PySem.W.sortVals_length _ (by rw [Array.length_toList]; exact kl)]
      exact hzl
theorem sorted_len (hun : X.A.units + 64 < cLine) {pins : List (Addr × Obj)} {s : Shared} {σ : L2.St} {H : Hp} {vs : List V} {us : List Value} {Q : VK} (I : Inv X pins σ H s) (r : Vals vs us) (h : rSortedLen X.K vs H Q) :
    wpAny (model X.prog X.w) X.A (call (.builtin "sorted") us [(Str.ofString "key", .builtin "len")]) (EP X pins σ Q) X.xe s := by
  obtain ⟨a, bs, rfl, hs, turn, q⟩ := h
  obtain ⟨its, rv, hl, hz⟩ := I.list hs
  rw [Vals.ref1 r]
  have hlen : its.length = bs.length := by rw [← rv.length, List.length_map]
  have hzl : its.length ≤ sizeLine := by rw [← rv.length]; exact hz
  refine PySem.W.sorted_of_sort hl.isList hzl (PyProof.Rows.ksk_s1 _ _) (fun _ => PyProof.Rows.ksk_l1 _ _) fun E' => ?_
  have way : Builtin.«list.sort» ⟨[.ref (s.heap.objs.size + 1)], [(Str.ofString "key", Value.builtin "len")]⟩ = PyProof.Rows.ksk_tree (s.heap.objs.size + 1) (.builtin "len") false := PyProof.Rows.ksk_t4 _ _
  rw [way]
  generalize hd : s.heap.objs.size + 1 = d
  have sd : s.heap.objs.size ≤ d := by rw [← hd]; exact Nat.le_succ _
  have od : (PySem.W.copyHeap s.heap its).get? d = some (seqObj "list" its.toArray 0) := by rw [← hd]; exact PySem.W.copyHeap_at _ _
  have ld : d < (PySem.W.copyHeap s.heap its).objs.size := Heap.lt_size od
  obtain ⟨ep, oe⟩ : ∃ e, ((PySem.W.copyHeap s.heap its).update d (Obj.mapSeq fun _ => (#[] : Array Value))).get? d = some (seqObj "list" #[] e) := ⟨_, get?_update_seq od fun _ => #[]⟩
  unfold PyProof.Rows.ksk_tree
  refine wpAny_bind (listItems_at od rfl (wpAny_bind (listUpdate_at od rfl (wpAny_bind (seqEpoch_at oe rfl (wpAny_bind (wpAny_newTuple (wpAny_bind (wpAny_newList (wpAny_holding ?_) (Nat.zero_le _))) hzl)))) (by rw [List.size_toArray]; exact hzl) (Nat.zero_le _))))
  have on : ∀ b o, s.heap.get? b = some o → (PySem.W.sortingHeap (PySem.W.copyHeap s.heap its) d its).get? b = some o := fun b o z => PySem.W.sortingHeap_old (by rw [← hd]; exact Nat.ne_of_lt (Nat.lt_succ_of_lt (Heap.lt_size z))) (PySem.W.copyHeap_old z)
  have I1 : Inv X pins σ H { s with heap := PySem.W.sortingHeap (PySem.W.copyHeap s.heap its) d its } := I.kept (t' := s.toks) on
  have hc : (((PySem.W.copyHeap s.heap its).update d (Obj.mapSeq fun _ => (#[] : Array Value))).push (seqObj "tuple" its.toArray 0)).objs.size = (PySem.W.copyHeap s.heap its).objs.size + 1 := by rw [size_push', Heap.size_update]
  have sc : s.heap.objs.size ≤ (PySem.W.copyHeap s.heap its).objs.size + 1 := by omega
  show wpAny (model X.prog X.w) X.A.in1.in1 (PyProof.Rows.ksk_rest d (.builtin "len") false its.toArray ep (.ref (((PySem.W.copyHeap s.heap its).update d (Obj.mapSeq fun _ => (#[] : Array Value))).push (seqObj "tuple" its.toArray 0)).objs.size)) _ E' { s with heap := PySem.W.sortingHeap (PySem.W.copyHeap s.heap its) d its }
  refine len_rest hun I1 (fun H1 z => I.fpOk (by rw [hc]; exact sc) z) (fun H1 z => I.fpOk sd z) (I.hok.fresh (by rw [hc]; exact sc)) (I.hok.fresh sd) (Heap.get?_push_size _ rfl) (Heap.get?_push_of_some _ (Heap.get?_push_of_some _ oe)) (by rw [hc]; exact Nat.ne_of_gt (Nat.lt_succ_of_lt ld)) (vals_each rv) hzl turn fun s' I2 => ⟨rfl, .ref d, _, I2, rfl, q d (I.hok.fresh sd)⟩
/-- sorted(e, key=len) -/
theorem pe_sortedLen {e : Expr} {ta : TA} {p p2 p3 pos : PySem.Pos} (hun : X.A.units + 64 < cLine) (hg : Gl X "sorted") (hm : X.mg "sorted" = none) (hg2 : Gl X "len") (hm2 : X.mg "len" = none) (ha : PA X [e] ta)
    (he : backTo pos (starEach [e] X.env) = (false, eval e X.env) :: backTo pos (starEach [] X.env) := by rfl) (hpl : (backTo pos (starEach [e] X.env)).any (·.1) = false := by rfl) :
    PE X (.Call (.Name "sorted" p) [e] [⟨some (Str.ofString "key"), .Name "len" p2, p3⟩] pos) (tSortLen X.K ta) := by
  refine ⟨fun pins s σ H Q I h => ?_⟩
  refine wpAny_Call_Name_kw (ld_blt (u := .builtin "sorted") I hg hm (by rfl) ?_)
  refine PyProof.Rows.callWith_kw (thn (ha.run pos pins s σ H _ I h) fun us s1 ⟨vs, H1, I1, r1, q1⟩ => ?_) he hpl
  refine PyProof.Rows.kws_cons (ld_blt (u := .builtin "len") I1 hg2 hm2 (by rfl) (PyProof.Rows.kws_nil ?_))
  exact sorted_len hun I1 r1 q1
end
end Own

namespace Own
open PySem PySem.Spec PyProof.Rows L2
/-! ### list(zip(xs, ys)) of two lists of one length: a list of new pairs -/
theorem zip_nolen : typeLookup (.type "zip") "__len__" = pure none := by rw [typeLookup_type, builtinLookup_eq_fast]; kernel_rfl
theorem zip_nohint : typeLookup (.type "zip") "__length_hint__" = pure none := by rw [typeLookup_type, builtinLookup_eq_fast]; kernel_rfl
/-- how a zip stands while a list S is being filled from it -/
structure ZSt (S z TI TO i1 i2 l1 l2 : Addr) (xs ys : Array Value) (i : Nat) (h : Heap) : Prop where
  ti : IsPair h TI (.ref i1) (.ref i2)
  a1 : h.IsListIter i1 l1 i
  a2 : h.IsListIter i2 l2 i
  b1 : h.IsList l1 xs
  b2 : h.IsList l2 ys
  out : (IsZip h z TI TO .none ∧ ∃ a b, IsPair h TO a b) ∨ ∃ (T : Addr) (f : Bool) (oT : Obj), IsZipHeld h z TI TO T f ∧ h.get? T = some oT ∧ T ≠ z ∧ T ≠ i1 ∧ T ≠ i2 ∧ T ≠ S
structure ZG (xs ys : Array Value) (lo : Addr) (h : Heap) (as : List Addr) : Prop where
  rise : as.Pairwise (· < ·)
  above : ∀ a ∈ as, lo < a
  pairs : ∀ (j : Nat) (a : Addr), as[j]? = some a → ∃ x y, xs[j]? = some x ∧ ys[j]? = some y ∧ IsPair h a x y
theorem ZG.there {xs ys : Array Value} {lo : Addr} {h : Heap} {as : List Addr} (g : ZG xs ys lo h as) {a : Addr} (ha : a ∈ as) : a < h.objs.size := by
  obtain ⟨j, hj⟩ := List.mem_iff_getElem?.mp ha
  obtain ⟨_, _, _, _, e⟩ := g.pairs j a hj
  exact Heap.lt_size e
section
variable {prog : Program} {w : World} {A : Around} {s : Shared} {R : Result → Shared → Prop} {S z TI TO i1 i2 l1 l2 : Addr} {xs ys : Array Value}
theorem ZSt.stay {i : Nat} {h h' : Heap} (st : ZSt S z TI TO i1 i2 l1 l2 xs ys i h) (nS : S ∉ [z, TI, TO, i1, i2, l1, l2]) (hk : ∀ b o, b ≠ S → h.get? b = some o → h'.get? b = some o) : ZSt S z TI TO i1 i2 l1 l2 xs ys i h' := by
  simp only [List.mem_cons, List.not_mem_nil, or_false, not_or] at nS
  obtain ⟨dz, dTI, dTO, di1, di2, dl1, dl2⟩ := nS
  refine ⟨hk _ _ (Ne.symm dTI) st.ti, st.a1.at fun o e => hk _ o (Ne.symm di1) e, st.a2.at fun o e => hk _ o (Ne.symm di2) e, st.b1.at fun o e => hk _ o (Ne.symm dl1) e, st.b2.at fun o e => hk _ o (Ne.symm dl2) e, ?_⟩
  rcases st.out with ⟨hz, a, b, hTO⟩ | ⟨T, f, oT, hz, hT, r1, r2, r3, r4⟩
  · exact .inl ⟨hk _ _ (Ne.symm dz) hz, a, b, hk _ _ (Ne.symm dTO) hTO⟩
  · exact .inr ⟨T, f, oT, hk _ _ (Ne.symm dz) hz, hk _ _ r4 hT, r1, r2, r3, r4⟩
theorem zst_item {E : Value → Shared → Prop} {Q : Option Value → Shared → Prop} {i : Nat} {x y : Value} (D : ZipApart z TI TO i1 i2 l1 l2) (st : ZSt S z TI TO i1 i2 l1 l2 xs ys i s.heap) (hS : S < s.heap.objs.size) (ex : xs[i]? = some x) (ey : ys[i]? = some y)
    (hQ : ∀ h', ZSt S z TI TO i1 i2 l1 l2 xs ys (i + 1) h' → IsPair h' s.heap.objs.size x y → (∀ c o, c ∉ [z, TO, i1, i2] → s.heap.get? c = some o → h'.get? c = some o) → Q (some (.ref s.heap.objs.size)) { s with heap := h' }) : wpAny (model prog w) A (pyNext (.ref z)) Q E s := by
  obtain ⟨hTI, h1, h2, hl1, hl2, hz⟩ := st
  have lt : ∀ {c o}, s.heap.get? c = some o → s.heap.objs.size ≠ c := fun e => Nat.ne_of_gt (Heap.lt_size e)
  have n1 : s.heap.objs.size ≠ i1 := let ⟨_, e, _⟩ := h1; lt e
  have n2 : s.heap.objs.size ≠ i2 := let ⟨_, e, _⟩ := h2; lt e
  rcases hz with ⟨hz, a, b, hTO⟩ | ⟨T, f, oT, hz, hT, r1, r2, r3, r4⟩
  · refine wpAny_pyNext_zip_item D hz hTI hTO h1 h2 hl1 hl2 ex ey fun h' a1 a2 a3 a4 a5 a6 hk => ?_
    exact hQ h' ⟨hk _ _ D.TIz D.TITO D.TIi1 D.TIi2 hTI, a3, a4, hl1.at fun o e => hk _ o D.l1z D.l1TO D.l1i1 D.l1i2 e, hl2.at fun o e => hk _ o D.l2z D.l2TO D.l2i1 D.l2i2 e,
        .inr ⟨s.heap.objs.size, false, _, a1, a5, lt hz, n1, n2, Nat.ne_of_gt hS⟩⟩ a5
      fun c o hc e => hk c o (fun x => hc (by simp [x])) (fun x => hc (by simp [x])) (fun x => hc (by simp [x])) (fun x => hc (by simp [x])) e
  · refine wpAny_pyNext_zip_item_held D hz hT hTI h1 h2 hl1 hl2 ex ey fun h' a1 a3 a4 a5 a6 hk => ?_
    exact hQ h' ⟨hk _ _ D.TIz D.TIi1 D.TIi2 hTI, a3, a4, hl1.at fun o e => hk _ o D.l1z D.l1i1 D.l1i2 e, hl2.at fun o e => hk _ o D.l2z D.l2i1 D.l2i2 e,
        .inr ⟨T, true, oT, a1, hk _ _ r1 r2 r3 hT, r1, r2, r3, r4⟩⟩ a5
      fun c o hc e => hk c o (fun x => hc (by simp [x])) (fun x => hc (by simp [x])) (fun x => hc (by simp [x])) e
theorem zst_done {E : Value → Shared → Prop} {Q : Option Value → Shared → Prop} {i : Nat} (hh : A.handled = none) (D : ZipApart z TI TO i1 i2 l1 l2) (st : ZSt S z TI TO i1 i2 l1 l2 xs ys i s.heap) (ex : xs[i]? = none)
    (hQ : ∀ h', (∀ c o, c ∉ [z, TO, i1, i2] → s.heap.get? c = some o → h'.get? c = some o) → Q none { s with heap := h' }) : wpAny (model prog w) A (pyNext (.ref z)) Q E s := by
  obtain ⟨hTI, h1, h2, hl1, hl2, hz⟩ := st
  rcases hz with ⟨hz, a, b, hTO⟩ | ⟨T, f, oT, hz, hT, r1, r2, r3, r4⟩
  · exact wpAny_pyNext_zip_end hh D hz hTI hTO h1 h2 hl1 hl2 (.inl ex) fun h' hk => hQ h' fun c o hc e => hk c o (fun x => hc (by simp [x])) (fun x => hc (by simp [x])) (fun x => hc (by simp [x])) (fun x => hc (by simp [x])) e
  · exact wpAny_pyNext_zip_end_held hh D hz hT hTI h1 h2 hl1 hl2 (.inl ex) fun h' hk => hQ h' fun c o hc e => hk c o (fun x => hc (by simp [x])) (fun x => hc (by simp [x])) (fun x => hc (by simp [x])) e
theorem zst_loop (hh : A.handled = none) (D : ZipApart z TI TO i1 i2 l1 l2) (nS : S ∉ [z, TI, TO, i1, i2, l1, l2]) (low : ∀ b ∈ [z, TI, TO, i1, i2, l1, l2], b < S) (hxy : xs.size = ys.size) (hn : xs.size ≤ sizeLine) (res : Value) {h₁ : Heap}
    (hR : ∀ h' tk acc c as, (∀ b o, b ≠ S → b ∉ [z, TO, i1, i2] → h₁.get? b = some o → h'.get? b = some o) → h'.get? S = some { cls := .type "list", dict := none, data := .seq acc c, slots := #[] } → as.length = xs.size → ZG xs ys S h' as →
      acc.toList = as.map Value.ref → R (.ok (.ret res)) { s with heap := h', toks := tk }) :
    ∀ (k i : Nat) (h : Heap) (tk c : Nat) (acc : Array Value) (as : List Addr), xs.size - i = k → i ≤ xs.size → ZSt S z TI TO i1 i2 l1 l2 xs ys i h → (∀ b o, b ≠ S → b ∉ [z, TO, i1, i2] → h₁.get? b = some o → h.get? b = some o) →
      h.get? S = some { cls := .type "list", dict := none, data := .seq acc c, slots := #[] } → acc.toList = as.map Value.ref → as.length = i → ZG xs ys S h as →
      codeAny (model prog w) A (.builtin "list.extend.loop" ⟨[.ref S, .ref z, res], []⟩) R { s with heap := h, toks := tk } := by
  have noW : S ∉ [z, TO, i1, i2] := fun hm => nS (by
    simp only [List.mem_cons, List.not_mem_nil, or_false] at hm ⊢
    rcases hm with e | e | e | e
    · exact .inl e
    · exact .inr (.inr (.inl e))
    · exact .inr (.inr (.inr (.inl e)))
    · exact .inr (.inr (.inr (.inr (.inl e)))))
  have sub : ∀ b ∈ [z, TO, i1, i2], b ∈ [z, TI, TO, i1, i2, l1, l2] := fun b hm => by
    simp only [List.mem_cons, List.not_mem_nil, or_false] at hm ⊢
    rcases hm with e | e | e | e
    · exact .inl e
    · exact .inr (.inr (.inl e))
    · exact .inr (.inr (.inr (.inl e)))
    · exact .inr (.inr (.inr (.inr (.inl e))))
  have offW : ∀ {a : Addr}, S < a → a ∉ [z, TO, i1, i2] := fun {a} ha hm => Nat.lt_asymm ha (low a (sub a hm))
  intro k
  induction k with
  | zero =>
    intro i h tk c acc as hk hi hst hkeep hS hacc hal hG
    refine codeAny_builtin PySem.F.entry_extend_loop ?_
    rw [Around.under_plainId PySem.F.plain_extend_loop _]
    show wpAny _ A.in1 (pyNext (.ref z) >>= _) _ _ _
    refine wpAny_bind (zst_done (s := { s with heap := h, toks := tk }) (A := A.in1) hh D hst (Array.getElem?_eq_none (by omega)) fun h' he => ?_)
    refine wpAny_pure (hR h' tk acc c as (fun b o h1 h2 e => he b o h2 (hkeep b o h1 h2 e)) (he S _ noW hS) (by omega) ⟨hG.rise, hG.above, fun j a hj => ?_⟩ hacc)
    obtain ⟨x, y, e1, e2, e3⟩ := hG.pairs j a hj
    exact ⟨x, y, e1, e2, he a _ (offW (hG.above a (List.mem_of_getElem? hj))) e3⟩
  | succ k ih =>
    intro i h tk c acc as hk hi hst hkeep hS hacc hal hG
    have hlt : i < xs.size := by omega
    have hlt2 : i < ys.size := by omega
    have ex := Array.getElem?_eq_getElem hlt
    have ey := Array.getElem?_eq_getElem hlt2
    have hsz : acc.size = i := by rw [← Array.length_toList, hacc, List.length_map, hal]
    refine codeAny_builtin PySem.F.entry_extend_loop ?_
    rw [Around.under_plainId PySem.F.plain_extend_loop _]
    show wpAny _ A.in1 (pyNext (.ref z) >>= _) _ _ _
    refine wpAny_bind (zst_item (s := { s with heap := h, toks := tk }) D hst (Heap.lt_size hS) ex ey fun h' hst' ht hkp => ?_)
    dsimp only at ht hkp ⊢
    have hS' := hkp S _ noW hS
    have up : ∀ b o, b ≠ S → h'.get? b = some o → (h'.update S (Obj.mapSeq (·.push (Value.ref h.objs.size)))).get? b = some o := fun b o hb e => (Heap.get?_update_other _ _ (Ne.symm hb)).trans e
    have hSl : S < h.objs.size := Heap.lt_size hS
    show wpAny _ A.in1 (updateSeq S (·.push (Value.ref h.objs.size)) >>= _) _ _ _
    refine wpAny_bind ?_
    refine wpAny_updateSeq hS' rfl (wpAny_pure ⟨plainId_quiet PySem.F.plain_extend_loop _, ih (i + 1) _ tk _ (acc.push (Value.ref h.objs.size)) (as ++ [h.objs.size]) (by omega) hlt (hst'.stay nS up)
      (fun b o h1 h2 e => up b o h1 (hkp b o h2 (hkeep b o h1 h2 e))) (Heap.get?_update_self _ hS' rfl) (by rw [Array.toList_push, hacc, List.map_append]; rfl) (by rw [List.length_append, hal]; rfl) ⟨?_, ?_, ?_⟩⟩) (by rw [hsz]; omega) (by show (acc.push (Value.ref h.objs.size)).size ≤ sizeLine + 1; rw [Array.size_push, hsz]; omega)
    · refine List.pairwise_append.mpr ⟨hG.rise, List.pairwise_singleton _ _, fun a ha b hb => ?_⟩
      rw [List.mem_singleton.mp hb]
      exact hG.there ha
    · intro a ha
      rcases List.mem_append.mp ha with ha | ha
      · exact hG.above a ha
      · rw [List.mem_singleton.mp ha]; exact hSl
    · intro j b hj
      rcases Nat.lt_trichotomy j as.length with h1 | h1 | h1
      · rw [List.getElem?_append_left h1] at hj
        obtain ⟨x', y', e1, e2, e3⟩ := hG.pairs j b hj
        have hb := hG.above b (List.mem_of_getElem? hj)
        exact ⟨x', y', e1, e2, up b _ (Nat.ne_of_gt hb) (hkp b _ (offW hb) e3)⟩
      · subst h1
        have hb : h.objs.size = b := by simpa using hj
        subst hb
        exact ⟨_, _, by rw [hal]; exact ex, by rw [hal]; exact ey, up _ _ (Nat.ne_of_gt hSl) ht⟩
      · have hnone : (as ++ [h.objs.size])[j]? = none := List.getElem?_eq_none (by rw [List.length_append, List.length_singleton]; omega)
        rw [hnone] at hj; cases hj
end
section
variable {prog : Program} {w : World} {A : Around} {E : Value → Shared → Prop} {s : Shared} {z TI TO i1 i2 l1 l2 : Addr} {xs ys : Array Value}
/-- list(z) of a new zip -/
theorem call_list_zipA {Q : Value → Shared → Prop} (hh : A.handled = none) (D : ZipApart z TI TO i1 i2 l1 l2) (low : ∀ b ∈ [z, TI, TO, i1, i2, l1, l2], b < s.heap.objs.size) (hxy : xs.size = ys.size) (hn : xs.size ≤ sizeLine)
    (hz : IsZip s.heap z TI TO .none) (hTI : IsPair s.heap TI (.ref i1) (.ref i2)) (hTO : IsPair s.heap TO .none .none) (h1 : s.heap.IsListIter i1 l1 0) (h2 : s.heap.IsListIter i2 l2 0) (hl1 : s.heap.IsList l1 xs) (hl2 : s.heap.IsList l2 ys)
    (hQ : ∀ h' tk acc c as, (∀ b o, b ∉ [z, TO, i1, i2] → s.heap.get? b = some o → h'.get? b = some o) → h'.get? s.heap.objs.size = some { cls := .type "list", dict := none, data := .seq acc c, slots := #[] } → as.length = xs.size → ZG xs ys s.heap.objs.size h' as →
      acc.toList = as.map Value.ref → Q (.ref s.heap.objs.size) { s with heap := h', toks := tk }) :
    wpAny (model prog w) A (call (.type "list") [.ref z]) Q E s := by
  refine callType_codes (Q₁ := fun obj s₁ => obj = .ref s.heap.objs.size ∧ s₁ = { s with heap := s.heap.push { cls := .type "list", data := .seq #[] } }) PySem.F.called_list (PySem.F.typeCall_list_1 _) PySem.F.entry_list_init
    (code_list_new _ ⟨rfl, rfl⟩) fun obj s₁ h₁ => ?_
  obtain ⟨rfl, rfl⟩ := h₁
  generalize hSe : s.heap.objs.size = S at low hQ ⊢
  have hS : (s.heap.push { cls := .type "list", data := .seq #[] }).get? S = some { cls := .type "list", data := .seq #[] } := by rw [← hSe]; exact Heap.get?_push_size _ rfl
  have nS : S ∉ [z, TI, TO, i1, i2, l1, l2] := fun hm => Nat.lt_irrefl _ (low S hm)
  have st0 : ZSt S z TI TO i1 i2 l1 l2 xs ys 0 s.heap := ⟨hTI, h1, h2, hl1, hl2, .inl ⟨hz, _, _, hTO⟩⟩
  have zS : S ≠ z := fun e => nS (by rw [e]; exact List.mem_cons_self)
  have old : ∀ b o, s.heap.get? b = some o → b ≠ S := fun b o e => by rw [← hSe]; exact Nat.ne_of_lt (Heap.lt_size e)
  have p0 : ∀ b o, s.heap.get? b = some o → (s.heap.push { cls := .type "list", data := .seq #[] }).get? b = some o := fun b o e => Heap.get?_push_of_some _ e
  generalize s.heap.push { cls := .type "list", data := .seq #[] } = g0 at hS p0 ⊢
  refine ⟨⟨_, hS, rfl⟩, PySem.F.args_list_init_2 _ _, ?_⟩
  show wpAny _ _ (do let old ← Builtin.List.listItems (.ref S); Builtin.List.listUpdate (.ref S) (fun _ => #[]); letGo old.toList.reverse; Builtin.List.listExtendWith (.ref S) (.ref z) .none) _ _ _
  refine wpAny_bind ?_
  unfold Builtin.List.listItems
  refine wpAny_bind (wpAny_seqItems hS rfl (wpAny_pure ?_))
  show wpAny _ _ (updateSeq S (fun _ => #[]) >>= fun _ => letGo (#[] : Array Value).toList.reverse >>= fun _ => Builtin.List.listExtendWith (.ref S) (.ref z) .none) _ _ _
  refine wpAny_bind (wpAny_updateSeq hS rfl ?_)
  have hS₂ := Heap.get?_update_self (Obj.mapSeq (fun _ => (#[] : Array Value))) hS rfl
  have p1 : ∀ b o, b ≠ S → g0.get? b = some o → (g0.update S (Obj.mapSeq (fun _ => (#[] : Array Value)))).get? b = some o :=
    fun b o hb e => (Heap.get?_update_other _ _ (Ne.symm hb)).trans e
  dsimp only
  generalize (g0.update S (Obj.mapSeq (fun _ => (#[] : Array Value)))) = g1 at hS₂ p1 ⊢
  refine wpAny_bind (wpAny_letGo ?_)
  have kp1 : ∀ b o, s.heap.get? b = some o → g1.get? b = some o := fun b o e => p1 b o (old b o e) (p0 b o e)
  have hzz : IsZip g1 z TI TO .none := kp1 _ _ hz
  have hT : ({ s with heap := g1 } : Shared).TypeIs (.ref z) "zip" := ⟨_, hzz, rfl⟩
  unfold Builtin.List.listExtendWith
  refine wpAny_bind (wpAny_typeOf hT ?_)
  have e1 : Builtin.List.listSameRef (.ref S) (.ref z) = false := by simp [Builtin.List.listSameRef, zS]
  have e2 : (Value.type "zip" == Value.type "list") = false := by decide
  have e3 : (Value.type "zip" == Value.type "tuple") = false := by decide
  simp only [e1, e2, e3, Bool.or_false, Bool.false_eq_true, if_false]
  refine wpAny_bind (wpAny_pyIter_zip hzz ?_)
  refine wpAny_bind (wpAny_holding ?_)
  unfold Builtin.List.listLengthHint
  refine wpAny_bind (wpAny_specialOf hT zip_nolen ?_)
  show wpAny _ _ (specialOf (Value.ref z) (Str.ofString "__length_hint__") >>= _) _ _ _
  refine wpAny_bind (wpAny_specialOf hT zip_nohint ?_)
  refine wpAny_pure ?_
  show wpAny _ _ (rule "list.extend.makes-room" >>= fun _ => Builtin.List.listTouch (.ref S) >>= fun _ =>
    again (.builtin "list.extend.loop" ⟨[.ref S, .ref z, .none], []⟩)) _ _ _
  refine wpAny_bind (wpAny_rule ?_)
  refine wpAny_bind ?_
  show wpAny _ _ (updateSeq S (·.push .none) >>= fun _ => updateSeq S (·.pop)) _ _ _
  refine wpAny_bind (wpAny_updateSeq hS₂ rfl ?_)
  have hS₃ := Heap.get?_update_self (Obj.mapSeq (·.push Value.none)) hS₂ rfl
  refine wpAny_updateSeq (hz := by seq_fits) hS₃ rfl ?_
  have hS₄ := Heap.get?_update_self (Obj.mapSeq (·.pop)) hS₃ rfl
  have p2 : ∀ b o, b ≠ S → g1.get? b = some o → (((g1.update S (Obj.mapSeq (·.push Value.none))).update S (Obj.mapSeq (·.pop)))).get? b = some o :=
    fun b o hb e => (Heap.get?_update_other _ _ (Ne.symm hb)).trans ((Heap.get?_update_other _ _ (Ne.symm hb)).trans e)
  dsimp only
  generalize ((g1.update S (Obj.mapSeq (·.push Value.none))).update S (Obj.mapSeq (·.pop))) = g2 at hS₄ p2 ⊢
  have kp2 : ∀ b o, b ≠ S → s.heap.get? b = some o → g2.get? b = some o := fun b o hb e => p2 b o hb (kp1 b o e)
  refine wpAny_pure ⟨plainId_quiet PySem.F.plain_extend_loop _, zst_loop (A := A.in1) (s := s) (h₁ := s.heap) hh D nS low hxy hn .none (fun h' tk acc c as hk hS' hl hG hacc => ?_) xs.size 0 g2 _ _ _ [] rfl (Nat.zero_le _) (st0.stay nS kp2) (fun b o hb _ e => kp2 b o hb e) hS₄ rfl rfl
    ⟨List.Pairwise.nil, (fun _ ha => nomatch ha), (fun j a hj => by simp at hj)⟩⟩
  exact ⟨rfl, hQ h' tk acc c as (fun b o hb e => hk b o (old b o e) hb e) hS' hl hG hacc⟩
end

/-- pairs tracked at their addresses -/
def putZ : Hp → List Addr → List (V × V) → Hp
  | H, a :: as, p :: r => putZ (upd H a (.tup [p.1, p.2])) as r
  | H, _, _ => H
theorem putZ_off {b : Addr} : ∀ (as : List Addr) (r : List (V × V)) (H : Hp), b ∉ as → putZ H as r b = H b
  | [], _, _, _ => rfl
  | _ :: _, [], _, _ => rfl
  | a :: as, p :: r, H, h => by
    show putZ (upd H a (.tup [p.1, p.2])) as r b = H b
    rw [putZ_off as r _ (fun z => h (List.mem_cons_of_mem _ z)), upd_ne (fun z => h (by rw [z]; exact List.mem_cons_self))]
theorem putZ_at : ∀ (as : List Addr) (r : List (V × V)) (H : Hp), as.length = r.length → as.Nodup → Paired (fun (t : Addr) (p : V × V) => putZ H as r t = some (.tup [p.1, p.2])) as r
  | [], [], _, _, _ => .nil
  | [], _ :: _, _, h, _ => by cases h
  | _ :: _, [], _, h, _ => by cases h
  | a :: as, p :: r, H, h, hn => by
    have hn' := List.nodup_cons.mp hn
    have ih := putZ_at as r (upd H a (.tup [p.1, p.2])) (Nat.succ.inj h) hn'.2
    refine .cons ?_ ih
    show putZ (upd H a (.tup [p.1, p.2])) as r a = some (.tup [p.1, p.2])
    rw [putZ_off as r _ hn'.1, upd_same]
theorem vals_get : ∀ {xs : List V} {us : List Value}, Vals xs us → ∀ {i : Nat} {x : V} {u : Value}, xs[i]? = some x → us[i]? = some u → RelV x u
  | _, _, .nil, i, x, u, h, _ => by simp at h
  | _, _, .cons r t, 0, x, u, h, k => by
    cases (show some _ = some x from h)
    cases (show some _ = some u from k)
    exact r
  | _, _, .cons r t, i + 1, x, u, h, k => vals_get t (i := i) h k
section
variable {X : Cx}
theorem zip_laid {pins : List (Addr × Obj)} {σ : L2.St} {H : Hp} {s : Shared} {h' : Heap} {tk : Nat} {S : Addr} {xs ys : List V} {us vs : List Value} {acc : Array Value} {c : Nat} {as : List Addr} (I : Inv X pins σ H s) (hz : xs.length ≤ sizeLine) (rx : Vals xs us) (ry : Vals ys vs) (hxy : xs.length = ys.length)
    (hSs : s.heap.objs.size ≤ S) (hk : ∀ b o, s.heap.get? b = some o → h'.get? b = some o) (hS : h'.get? S = some { cls := .type "list", dict := none, data := .seq acc c, slots := #[] }) (hl : as.length = us.length) (hG : ZG us.toArray vs.toArray S h' as) (hacc : acc.toList = as.map Value.ref) :
    ∃ H' : Hp, Same H H' ∧ H S = none ∧ H' S = some (.lst (as.map V.ref)) ∧ Paired (fun (t : Addr) (q : V × V) => H' t = some (.tup [q.1, q.2])) as (xs.zip ys) ∧ Inv X pins σ H' { s with heap := h', toks := tk } := by
  have lk : xs.length = us.length := rx.length
  have lz : as.length = (xs.zip ys).length := by rw [List.length_zip]; omega
  have hSn : S ∉ as := fun z => Nat.lt_irrefl _ (hG.above _ z)
  have nd : as.Nodup := List.Pairwise.imp (fun {a b} (h : a < b) => Nat.ne_of_lt h) hG.rise
  have new : ∀ t ∈ as, H t = none := fun t ht => I.hok.fresh (Nat.le_trans hSs (Nat.le_of_lt (hG.above t ht)))
  have newS : H S = none := I.hok.fresh hSs
  have atP := putZ_at as (xs.zip ys) (upd H S (.lst (as.map V.ref))) lz nd
  have off : ∀ b, b ∉ as → b ≠ S → putZ (upd H S (.lst (as.map V.ref))) as (xs.zip ys) b = H b := fun b h1 h2 => by rw [putZ_off as _ _ h1, upd_ne h2]
  have low : ∀ b o, s.heap.get? b = some o → b ∉ as ∧ b ≠ S := fun b o e => by
    have := Heap.lt_size e
    exact ⟨fun z => absurd this (Nat.not_lt.mpr (Nat.le_trans hSs (Nat.le_of_lt (hG.above b z)))), Nat.ne_of_lt (Nat.lt_of_lt_of_le this hSs)⟩
  have kp : ∀ b u, H b = some u → (putZ (upd H S (.lst (as.map V.ref))) as (xs.zip ys)) b = some u := fun b u e => by
    rw [off b (fun z => by rw [new b z] at e; cases e) (fun z => by rw [z, newS] at e; cases e)]
    exact e
  have eS : putZ (upd H S (.lst (as.map V.ref))) as (xs.zip ys) S = some (.lst (as.map V.ref)) := by rw [putZ_off as _ _ hSn, upd_same]
  refine ⟨putZ (upd H S (.lst (as.map V.ref))) as (xs.zip ys), kp, newS, eS, atP, ?_⟩
  refine I.call' (ch := []) rfl ⟨fun b o q _ _ _ => hk b o q, fun b o q _ _ _ => ⟨o.slots, hk b o q⟩, fun b o q n _ => ?_, fun b o q _ => ⟨o, hk b o q⟩, fun b xs q => kp b _ q, fun b o u q => kp b _ q, fun b ps q => ⟨#[], by rw [kp b _ q]; simp⟩⟩ (fun b u q => ?_) I.bare fun b z => by simp at z
  · obtain ⟨z1, z2⟩ := low b o q
    rw [off b z1 z2]
    exact n
  · by_cases hb : b ∈ as
    · obtain ⟨j, pk, e1, e2, e3⟩ := LiI.paired_ix atP hb
      rw [e3] at q
      cases q
      obtain ⟨x, y, f1, f2, f3⟩ := hG.pairs j b e1
      obtain ⟨g1, g2⟩ := List.getElem?_zip_eq_some.mp e2
      exact ⟨by show 2 ≤ sizeLine; decide, [x, y], .cons (vals_get rx g1 (by simpa using f1)) (.cons (vals_get ry g2 (by simpa using f2)) .nil), ⟨_, f3, rfl, _, rfl⟩⟩
    · by_cases hb2 : b = S
      · rw [hb2] at q ⊢
        rw [eS] at q
        cases q
        refine ⟨by rw [List.length_map]; omega, acc.toList, c, by rw [hacc]; exact LiI.vals_refs as, ?_⟩
        rw [Array.toArray_toList]
        exact hS
      · rw [off b hb hb2] at q
        exact (I.hok b u q).stay (fun d v _ y => hk d v y) (fun d y => kp d _ y) fun d xs y => kp d _ y
def tLZip (K : PySem.W.Frag) (ta : TA) : TE := fun σ H Q => ta σ H fun vs H1 => ∃ (a b : Addr) (xs ys : List V), vs = [.ref a, .ref b] ∧ SqL K H1 a xs ∧ SqL K H1 b ys ∧ xs.length = ys.length ∧
  ∀ (H' : Hp) (p : Addr) (as : List Addr), Same H1 H' → H1 p = none → H' p = some (.lst (as.map V.ref)) → Paired (fun (t : Addr) (q : V × V) => H' t = some (.tup [q.1, q.2])) as (xs.zip ys) → Q (.ref p) H'
theorem pe_listZip {e e2 : Expr} {ta : TA} {p0 p pos cpos : PySem.Pos} (hcalm : X.calm = true) (hg : Gl X "list") (hm : X.mg "list" = none) (hgz : Gl X "zip") (hmz : X.mg "zip" = none) (ha : PA X [e, e2] ta)
    (hs : starEach [e, e2] X.env = (false, eval e X.env) :: starEach [e2] X.env := by rfl) (hpl : (backTo pos (starEach [e2] X.env)).any (·.1) = false := by rfl)
    (hs0 : starEach [Expr.Call (.Name "zip" p) [e, e2] [] pos] X.env = (false, eval (Expr.Call (.Name "zip" p) [e, e2] [] pos) X.env) :: starEach [] X.env := by rfl) (hpl0 : (backTo cpos (starEach [] X.env)).any (·.1) = false := by rfl) :
    PE X (.Call (.Name "list" p0) [.Call (.Name "zip" p) [e, e2] [] pos] [] cpos) (tLZip X.K ta) := by
  refine ⟨fun pins s σ H Q I h => ?_⟩
  refine wpAny_Call_Name_kw (ld_blt I hg hm PyProof.Rows.boot_list ?_ (by decide) (by decide))
  refine PyProof.Rows.callWith_type1 ?_ hs0 hpl0
  rw [hs0]
  show wpAny _ _ (spliced ((false, eval (Expr.Call (.Name "zip" p) [e, e2] [] pos) X.env) :: backTo cpos (starEach [] X.env))) _ _ s
  refine Calls.spliced_cons ?_
  refine wpAny_Call_Name_kw (ld_blt I hgz hmz PyProof.Rows.boot_zip ?_ (by decide) (by decide))
  refine PyProof.Rows.callWith_type1 (thn (ha.run pos pins s σ H _ I h) fun us s1 ⟨vs, H1, I1, r1, q1⟩ => ?_) hs hpl
  obtain ⟨a, b, xs, ys, ex, hqx, hqy, hl, q⟩ := q1
  subst ex
  cases r1 with
  | cons r rr =>
    cases rr with
    | cons r' rr =>
      cases rr
      cases r
      cases r'
      obtain ⟨its, rv, p1, z1⟩ := I1.list hqx
      obtain ⟨its2, rv2, p2, z2⟩ := I1.list hqy
      have lx := rv.length
      have ly := rv2.length
      refine call_zip_2 p1.isList p2.isList fun h' hz hTI hTO h1 h2 hsz hk => ?_
      refine Calls.spliced_nil ?_
      have k1 : ∀ {x o}, s1.heap.get? x = some o → x ∉ [s1.heap.objs.size + 4, s1.heap.objs.size + 3, s1.heap.objs.size, s1.heap.objs.size + 1] := fun {x o} e hm => by
        have := Heap.lt_size e
        simp only [List.mem_cons, List.not_mem_nil, or_false] at hm
        rcases hm with hm | hm | hm | hm
        · exact Nat.lt_irrefl _ (Nat.lt_of_le_of_lt (Nat.le_add_right _ 4) (by rw [hm] at this; exact this))
        · exact Nat.lt_irrefl _ (Nat.lt_of_le_of_lt (Nat.le_add_right _ 3) (by rw [hm] at this; exact this))
        · exact Nat.lt_irrefl _ (by rw [hm] at this; exact this)
        · exact Nat.lt_irrefl _ (Nat.lt_of_le_of_lt (Nat.le_add_right _ 1) (by rw [hm] at this; exact this))
      have hpa := p1.lt
      have hpb := p2.lt
      refine call_list_zipA (s := { s1 with heap := h' }) (A := X.A) (xs := its.toArray) (ys := its2.toArray) (I1.ok.hd hcalm) (PySem.W.ktu_apart s1.heap.objs.size a b hpa hpb) (fun c hm => ?_) (by simp; omega) (by simp; omega) hz hTI hTO h1 h2 (p1.isList.at fun o e => hk _ _ e) (p2.isList.at fun o e => hk _ _ e) fun h'' tk acc c as hk2 hS hl2 hG hacc => ?_
      · show c < h'.objs.size
        rw [hsz]
        simp only [List.mem_cons, List.not_mem_nil, or_false] at hm
        generalize s1.heap.objs.size = n at *
        rcases hm with rfl | rfl | rfl | rfl | rfl | rfl | rfl
        · exact Nat.lt_succ_self _
        · exact Nat.add_lt_add_left (by decide) _
        · exact Nat.add_lt_add_left (by decide) _
        · exact Nat.lt_add_of_pos_right (by decide)
        · exact Nat.add_lt_add_left (by decide) _
        · exact Nat.lt_of_lt_of_le hpa (Nat.le_add_right _ _)
        · exact Nat.lt_of_lt_of_le hpb (Nat.le_add_right _ _)
      · obtain ⟨H', m1, m2, m3, m4, J⟩ := zip_laid (tk := tk) (S := h'.objs.size) I1 (by omega) rv rv2 hl (by rw [hsz]; exact Nat.le_add_right _ _) (fun x o e => hk2 x o (k1 e) (hk x o e)) hS (by simpa using hl2) hG hacc
        exact ⟨.ref h'.objs.size, H', J, rfl, q H' _ as m1 m2 m3 m4⟩
end
/-- the truth of a value, within a comprehension -/
theorem pt_truthK {X : Cx} {a : Expr} {ta : TE} (K : PySem.W.Frag) (hK : X.K = K) (ha : PE X a ta) (he : ∀ whole, isTrue a X.env whole = (do let v ← whole; standAt a.pos; holding [v] (truthy v))) :
    PT X a (fun σ H Q => ta σ H fun x H' => ∃ k, TruV K x H' k ∧ Q k H') := by
  subst hK
  exact pt_truth ha he
end Own

namespace Own
open PySem PySem.Spec PyProof.Rows L2
/-- a test that is cut off what follows it: what it says is told by P -/
theorem test_cut {tt : L2.St → Hp → (Bool → Hp → Prop) → Prop} {σ : L2.St} {H : Hp} {Q : Bool → Hp → Prop} (P : Bool → Hp → Prop) (h : ∀ Q' : Bool → Hp → Prop, (∀ c H4, P c H4 → Q' c H4) → tt σ H Q')
    (kt : ∀ H4, P true H4 → Q true H4) (kf : ∀ H4, P false H4 → Q false H4) : tt σ H Q := h Q fun c H4 p => by
  cases c
  · exact kf H4 p
  · exact kt H4 p
/-- the truth of a value within a comprehension, told by a word of its own -/
def tTruN (K : PySem.W.Frag) (ta : TE) : TT := fun σ H Q => ta σ H fun x H' => ∃ k, TruV K x H' k ∧ Q k H'
theorem pt_truthN {X : Cx} {a : Expr} {ta : TE} (K : PySem.W.Frag) (hK : X.K = K) (ha : PE X a ta) (he : ∀ whole, isTrue a X.env whole = (do let v ← whole; standAt a.pos; holding [v] (truthy v))) :
    PT X a (tTruN K ta) := pt_truthK K hK ha he
/-- x is not True -/
def rNotTrue : R2 := fun x y H Q => y = .bl true ∧ tame x = true ∧ Q (.bl (!decide (x = .bl true))) H
theorem op_notTrue {X : Cx} : OpR X (compareOp .IsNot) rNotTrue := by
  intro pins s σ H x y v u Q I rx ry h
  obtain ⟨rfl, ht, q⟩ := h
  cases ry
  cases x with
  | bl b =>
    cases rx
    exact wpAny_isNot_plain rfl (fin_bl I q (by cases b <;> rfl))
  | int i =>
    obtain ⟨t, rfl⟩ := rx
    exact wpAny_isNot_plain rfl (fin_bl I q rfl)
  | ref a =>
    cases rx
    exact wpAny_isNot_plain rfl (fin_bl I q rfl)
  | _ => cases ht
end Own

namespace Own
open PySem PySem.Spec PyProof.Rows L2
/-! ### sums over all lots of a row, with weights for each button that is in and out -/
def cs (a b : Int → Nat) : List Int → (List Int → Nat) → Nat
  | [], f => f []
  | x :: X, f => b x * cs a b X f + a x * cs a b X fun L => f (x :: L)
theorem cs_congr {a b : Int → Nat} : ∀ {X : List Int} {f g : List Int → Nat}, (∀ L, L.Sublist X → f L = g L) → cs a b X f = cs a b X g
  | [], f, g, h => h [] (List.Sublist.refl _)
  | x :: X, f, g, h => by
    rw [cs, cs, cs_congr (X := X) fun L hL => h L (hL.cons x), cs_congr (X := X) fun L hL => h (x :: L) (hL.cons₂ x)]
theorem cs_add {a b : Int → Nat} : ∀ (X : List Int) (f g : List Int → Nat), cs a b X (fun L => f L + g L) = cs a b X f + cs a b X g
  | [], f, g => rfl
  | x :: X, f, g => by
    rw [cs, cs, cs, cs_add X f g, cs_add X (fun L => f (x :: L)) (fun L => g (x :: L)), Nat.mul_add, Nat.mul_add]
    omega
theorem cs_mul_right {a b : Int → Nat} (c : Nat) : ∀ (X : List Int) (f : List Int → Nat), cs a b X (fun L => f L * c) = cs a b X f * c
  | [], f => rfl
  | x :: X, f => by
    rw [cs, cs, cs_mul_right c X f, cs_mul_right c X (fun L => f (x :: L)), Nat.add_mul, Nat.mul_assoc, Nat.mul_assoc]
theorem cs_mul_left {a b : Int → Nat} (c : Nat) (X : List Int) (f : List Int → Nat) : cs a b X (fun L => c * f L) = c * cs a b X f := by
  rw [Nat.mul_comm, ← cs_mul_right]
  exact cs_congr fun L _ => Nat.mul_comm _ _
theorem cs_zero {a b : Int → Nat} : ∀ X : List Int, cs a b X (fun _ => 0) = 0
  | [] => rfl
  | x :: X => by rw [cs, cs_zero X]; simp
theorem cs_append {a b : Int → Nat} : ∀ (A B : List Int) (f : List Int → Nat), cs a b (A ++ B) f = cs a b A fun x => cs a b B fun y => f (x ++ y)
  | [], B, f => rfl
  | x :: A, B, f => by
    rw [List.cons_append, cs, cs, cs_append A B f, cs_append A B fun L => f (x :: L)]
    rfl
theorem cs_split {a b : Int → Nat} (A B : List Int) (f g : List Int → Nat) : (cs a b A fun x => cs a b B fun y => f x * g y) = cs a b A f * cs a b B g := by
  rw [← cs_mul_right]
  exact cs_congr fun L _ => cs_mul_left _ _ _
/-- f looks at what is in a lot alone -/
def SetWise (f : List Int → Nat) : Prop := ∀ L M : List Int, (∀ x, x ∈ L ↔ x ∈ M) → f L = f M
theorem SetWise.cons {f : List Int → Nat} (h : SetWise f) (x : Int) : SetWise fun L => f (x :: L) := fun L M e => h _ _ fun y => by
  rw [List.mem_cons, List.mem_cons, e y]
theorem cs_perm {a b : Int → Nat} {X Y : List Int} (h : X.Perm Y) : ∀ {f : List Int → Nat}, SetWise f → cs a b X f = cs a b Y f := by
  induction h with
  | nil => intro f _; rfl
  | cons x _ ih => intro f hf; rw [cs, cs, ih hf, ih (hf.cons x)]
  | swap x y l =>
    intro f hf
    have e : (cs a b l fun L => f (y :: x :: L)) = cs a b l fun L => f (x :: y :: L) := cs_congr fun L _ => hf _ _ fun z => by
      simp only [List.mem_cons]
      constructor <;> (rintro (h | h | h) <;> simp [h])
    simp only [cs, Nat.mul_add]
    rw [e]
    rw [Nat.mul_left_comm (b y) (b x), Nat.mul_left_comm (b y) (a x), Nat.mul_left_comm (a y) (b x), Nat.mul_left_comm (a y) (a x)]
    omega
  | trans _ _ ih1 ih2 => intro f hf; rw [ih1 hf, ih2 hf]
theorem cs_le {a b : Int → Nat} {w : Nat} : ∀ (X : List Int) (f : List Int → Nat), (∀ x ∈ X, a x + b x ≤ w) → (∀ L, f L ≤ 1) → cs a b X f ≤ w ^ X.length
  | [], f, _, hf => by rw [cs]; exact hf []
  | x :: X, f, hw, hf => by
    have h1 := cs_le X f (fun y hy => hw y (List.mem_cons_of_mem _ hy)) hf
    have h2 := cs_le X (fun L => f (x :: L)) (fun y hy => hw y (List.mem_cons_of_mem _ hy)) fun L => hf (x :: L)
    have h3 := hw x List.mem_cons_self
    rw [cs, List.length_cons, Nat.pow_succ]
    have e1 := Nat.mul_le_mul_left (b x) h1
    have e2 := Nat.mul_le_mul_left (a x) h2
    have e3 : (a x + b x) * w ^ X.length ≤ w * w ^ X.length := Nat.mul_le_mul_right _ h3
    rw [Nat.add_mul] at e3
    rw [Nat.mul_comm (w ^ X.length)]
    omega
theorem cs_pos_congr {a b a' b' : Int → Nat} : ∀ {X : List Int} {f : List Int → Nat}, (∀ x ∈ X, a x = a' x ∧ b x = b' x) → cs a b X f = cs a' b' X f
  | [], f, _ => rfl
  | x :: X, f, h => by
    have hx := h x List.mem_cons_self
    rw [cs, cs, hx.1, hx.2, cs_pos_congr (X := X) fun y hy => h y (List.mem_cons_of_mem _ hy), cs_pos_congr (X := X) fun y hy => h y (List.mem_cons_of_mem _ hy)]
/-! rows of pairs, chosen by numbers -/
def tcR : List (Nat × Nat) → Nat → Nat
  | [], j => if j = 0 then 1 else 0
  | (u, v) :: r, 0 => tcR r 0 * v
  | (u, v) :: r, j + 1 => tcR r (j + 1) * v + tcR r j * u
def tc (rows : List (Nat × Nat)) : Nat → Nat := tcR rows.reverse
theorem tc_nil (j : Nat) : tc [] j = if j = 0 then 1 else 0 := rfl
theorem tc_snoc0 (rows : List (Nat × Nat)) (u v : Nat) : tc (rows ++ [(u, v)]) 0 = tc rows 0 * v := by
  unfold tc
  rw [List.reverse_append, List.reverse_singleton, List.singleton_append, tcR]
theorem tc_snoc (rows : List (Nat × Nat)) (u v j : Nat) : tc (rows ++ [(u, v)]) (j + 1) = tc rows (j + 1) * v + tc rows j * u := by
  unfold tc
  rw [List.reverse_append, List.reverse_singleton, List.singleton_append, tcR]
theorem tcR_high : ∀ (rows : List (Nat × Nat)) (j : Nat), rows.length < j → tcR rows j = 0
  | [], j, h => by rw [tcR, if_neg (by simp at h; omega)]
  | (u, v) :: r, 0, h => by simp at h
  | (u, v) :: r, j + 1, h => by
    rw [List.length_cons] at h
    rw [tcR, tcR_high r (j + 1) (by omega), tcR_high r j (by omega)]
    simp
theorem tc_high (rows : List (Nat × Nat)) (j : Nat) (h : rows.length < j) : tc rows j = 0 := tcR_high _ _ (by rw [List.length_reverse]; exact h)
def prodR : List (Nat × Nat) → Nat
  | [] => 1
  | (u, v) :: r => (u + v) * prodR r
theorem tcR_le : ∀ (rows : List (Nat × Nat)) (j : Nat), tcR rows j ≤ prodR rows
  | [], j => by rw [tcR, prodR]; split <;> omega
  | (u, v) :: r, 0 => by
    have h := tcR_le r 0
    rw [tcR, prodR, Nat.add_mul]
    have := Nat.mul_le_mul_right v h
    rw [Nat.mul_comm v]
    omega
  | (u, v) :: r, j + 1 => by
    have h1 := Nat.mul_le_mul_right v (tcR_le r (j + 1))
    have h2 := Nat.mul_le_mul_right u (tcR_le r j)
    rw [tcR, prodR, Nat.add_mul, Nat.mul_comm u, Nat.mul_comm v]
    omega
/-- what is chosen of parts: A for those that are, B for the others -/
def selR (A B : Tr → List Int → Nat) : List Tr → Nat → List Int → Nat
  | [], j, _ => if j = 0 then 1 else 0
  | p :: r, 0, L => selR A B r 0 L * B p L
  | p :: r, j + 1, L => selR A B r (j + 1) L * B p L + selR A B r j L * A p L
/-- f looks at the buttons of X alone -/
def LocalTo (X : List Int) (f : List Int → Nat) : Prop := ∀ L M : List Int, (∀ x ∈ X, x ∈ L ↔ x ∈ M) → f L = f M
theorem selR_local {A B : Tr → List Int → Nat} : ∀ {qs : List Tr} {j : Nat}, (∀ p ∈ qs, LocalTo p.held (A p) ∧ LocalTo p.held (B p)) → LocalTo (Tr.helds qs) (selR A B qs j)
  | [], j, _ => fun L M _ => rfl
  | p :: r, j, h => fun L M e => by
    have hp := h p List.mem_cons_self
    have hr := fun j => selR_local (qs := r) (j := j) fun q hq => h q (List.mem_cons_of_mem _ hq)
    have e1 : ∀ x ∈ p.held, x ∈ L ↔ x ∈ M := fun x hx => e x (by rw [Tr.helds]; exact List.mem_append_left _ hx)
    have e2 : ∀ x ∈ Tr.helds r, x ∈ L ↔ x ∈ M := fun x hx => e x (by rw [Tr.helds]; exact List.mem_append_right _ hx)
    cases j with
    | zero => rw [selR, selR, hp.2 L M e1, hr 0 L M e2]
    | succ j => rw [selR, selR, hp.1 L M e1, hp.2 L M e1, hr (j + 1) L M e2, hr j L M e2]
theorem cs_sel {a b : Int → Nat} {A B : Tr → List Int → Nat} : ∀ (qs : List Tr) (j : Nat), (∀ p ∈ qs, LocalTo p.held (A p) ∧ LocalTo p.held (B p)) → (Tr.helds qs).Nodup →
    cs a b (Tr.helds qs.reverse) (selR A B qs j) = tcR (qs.map fun p => (cs a b p.held (A p), cs a b p.held (B p))) j
  | [], j, _, _ => by
    rw [List.reverse_nil, Tr.helds, cs, List.map_nil, selR, tcR]
  | p :: r, j, h, hn => by
    have hp := h p List.mem_cons_self
    have hr := fun j => cs_sel (a := a) (b := b) r j (fun q hq => h q (List.mem_cons_of_mem _ hq)) (by rw [Tr.helds, List.nodup_append] at hn; exact hn.2.1)
    have hlr := fun j => selR_local (A := A) (B := B) (qs := r) (j := j) fun q hq => h q (List.mem_cons_of_mem _ hq)
    rw [Tr.helds, List.nodup_append] at hn
    have hperm : ∀ x, x ∈ Tr.helds r.reverse ↔ x ∈ Tr.helds r := fun x => by
      rw [helds_eq, helds_eq, List.mem_flatMap, List.mem_flatMap]
      simp only [List.mem_reverse]
    have at1 : ∀ (x y : List Int), x.Sublist (Tr.helds r.reverse) → y.Sublist p.held → (∀ j, selR A B r j (x ++ y) = selR A B r j x) ∧ A p (x ++ y) = A p y ∧ B p (x ++ y) = B p y := fun x y hx hy => by
      have o1 : ∀ z ∈ Tr.helds r, z ∈ x ++ y ↔ z ∈ x := fun z hz => by
        rw [List.mem_append]
        exact ⟨fun q => q.elim id fun q => absurd rfl (hn.2.2 z (hy.subset q) z hz), .inl⟩
      have o2 : ∀ z ∈ p.held, z ∈ x ++ y ↔ z ∈ y := fun z hz => by
        rw [List.mem_append]
        exact ⟨fun q => q.elim (fun q => absurd rfl (hn.2.2 z hz z ((hperm z).mp (hx.subset q)))) id, .inr⟩
      exact ⟨fun j => hlr j _ _ o1, hp.1 _ _ o2, hp.2 _ _ o2⟩
    rw [List.reverse_cons, helds_snoc, cs_append, List.map_cons]
    cases j with
    | zero =>
      rw [tcR, ← hr 0, ← cs_split]
      refine cs_congr fun x hx => cs_congr fun y hy => ?_
      obtain ⟨h1, h2, h3⟩ := at1 x y hx hy
      rw [selR, h1, h3]
    | succ j =>
      rw [tcR, ← hr (j + 1), ← hr j, ← cs_split, ← cs_split, ← cs_add]
      refine cs_congr fun x hx => ?_
      rw [← cs_add]
      refine cs_congr fun y hy => ?_
      obtain ⟨h1, h2, h3⟩ := at1 x y hx hy
      rw [selR, h1, h1, h2, h3]
/-! ### lots that go -/
def ind (b : Bool) : Nat := if b = true then 1 else 0
theorem ind_le (b : Bool) : ind b ≤ 1 := by unfold ind; split <;> omega
theorem go_local (t : Tr) : LocalTo t.held fun L => ind (t.go L) := fun L M e => by
  show ind _ = ind _
  congr 1
  rw [go_gp, go_gp]
  exact gp_congr t fun x hx => by simp only [e x hx]
theorem fail_local (t : Tr) : LocalTo t.held fun L => ind (!t.go L) := fun L M e => by
  show ind _ = ind _
  congr 2
  rw [go_gp, go_gp]
  exact gp_congr t fun x hx => by simp only [e x hx]
theorem LocalTo.setwise {X : List Int} {f : List Int → Nat} (h : LocalTo X f) : SetWise f := fun L M e => h L M fun x _ => e x
theorem sel_go : ∀ (qs : List Tr) (j : Nat) (L : List Int), selR (fun p L => ind (p.go L)) (fun p L => ind (!p.go L)) qs j L = if Tr.cnt L qs = j then 1 else 0
  | [], j, L => by
    rw [selR, Tr.cnt]
    by_cases h : j = 0 <;> simp [h, eq_comm]
  | p :: r, 0, L => by
    rw [selR, sel_go r 0 L, Tr.cnt]
    cases p.go L <;> simp [ind]
  | p :: r, j + 1, L => by
    rw [selR, sel_go r (j + 1) L, sel_go r j L, Tr.cnt]
    cases p.go L with
    | true =>
      simp only [ind, if_pos, Bool.not_true, Bool.false_eq_true, if_false, Nat.mul_zero, Nat.zero_add, Nat.mul_one]
      by_cases h : Tr.cnt L r = j
      · rw [if_pos h, if_pos (by omega)]
      · rw [if_neg h, if_neg (by omega)]
    | false =>
      simp only [ind, Bool.not_false, if_pos, Bool.false_eq_true, if_false, Nat.mul_zero, Nat.add_zero, Nat.mul_one, Nat.zero_add]
end Own

namespace Own
open PySem PySem.Spec PyProof.Rows L2
/-! ### least lots -/
def offS (S : Int → Bool) (x : Int) : Int → Bool := fun i => S i && !decide (i = x)
theorem off_out {t : Tr} {S : Int → Bool} {x : Int} (h : x ∉ t.held) : gp (offS S x) t = gp S t := gp_congr t fun i hi => by
  have : i ≠ x := fun e => h (e ▸ hi)
  simp [offS, this]
theorem off_outs {ps : List Tr} {S : Int → Bool} {x : Int} (h : x ∉ Tr.helds ps) : cp (offS S x) ps = cp S ps := cp_congr ps fun i hi => by
  have : i ≠ x := fun e => h (e ▸ hi)
  simp [offS, this]
/-- the buttons of t that are in make a least lot of it -/
def lstS (S : Int → Bool) (t : Tr) : Bool := gp S t && t.held.all fun x => !S x || !gp (offS S x) t
def empS (S : Int → Bool) (t : Tr) : Bool := t.held.all fun x => !S x
theorem lstS_iff {S : Int → Bool} {t : Tr} : lstS S t = true ↔ gp S t = true ∧ ∀ x ∈ t.held, S x = true → gp (offS S x) t = false := by
  unfold lstS
  rw [Bool.and_eq_true, List.all_eq_true]
  constructor
  · rintro ⟨a, b⟩
    refine ⟨a, fun x hx hS => ?_⟩
    have := b x hx
    rw [hS] at this
    simpa using this
  · rintro ⟨a, b⟩
    refine ⟨a, fun x hx => ?_⟩
    cases hS : S x with
    | false => rfl
    | true => rw [b x hx hS]; rfl
theorem empS_iff {S : Int → Bool} {t : Tr} : empS S t = true ↔ ∀ x ∈ t.held, S x = false := by
  unfold empS
  rw [List.all_eq_true]
  constructor
  · intro h x hx
    have := h x hx
    simpa using this
  · intro h x hx
    rw [h x hx]
    rfl
theorem lst_congr {S R : Int → Bool} {t : Tr} (h : ∀ x ∈ t.held, S x = R x) : lstS S t = lstS R t := by
  rw [Bool.eq_iff_iff, lstS_iff, lstS_iff, gp_congr t h]
  have e : ∀ x, gp (offS S x) t = gp (offS R x) t := fun x => gp_congr t fun i hi => by simp only [offS, h i hi]
  constructor
  · rintro ⟨a, b⟩
    exact ⟨a, fun x hx hS => by rw [← e]; exact b x hx (by rw [h x hx]; exact hS)⟩
  · rintro ⟨a, b⟩
    exact ⟨a, fun x hx hS => by rw [e]; exact b x hx (by rw [← h x hx]; exact hS)⟩
theorem emp_congr {S R : Int → Bool} {t : Tr} (h : ∀ x ∈ t.held, S x = R x) : empS S t = empS R t := by
  rw [Bool.eq_iff_iff, empS_iff, empS_iff]
  exact ⟨fun a x hx => by rw [← h x hx]; exact a x hx, fun a x hx => by rw [h x hx]; exact a x hx⟩
theorem emp_fails {S : Int → Bool} {t : Tr} (o : t.ok) (h : empS S t = true) : gp S t = false := gp_off t o (empS_iff.mp h)
theorem goes_some {S : Int → Bool} {t : Tr} (o : t.ok) (h : gp S t = true) : ∃ x ∈ t.held, S x = true := by
  refine Decidable.byContradiction fun q => ?_
  have : gp S t = false := gp_off t o fun x hx => by
    cases hS : S x with
    | false => rfl
    | true => exact absurd ⟨x, hx, hS⟩ q
  rw [h] at this
  cases this
theorem cp_cons (S : Int → Bool) (p : Tr) (r : List Tr) : cp S (p :: r) = (if gp S p = true then 1 else 0) + cp S r := by rw [cp]
theorem lst_trip {S : Int → Bool} {k : Int} {ps : List Tr} (o : Tr.oks ps) (n : (Tr.helds ps).Nodup) (hk : 1 ≤ k) : lstS S (.t k ps) = true ↔ (∀ p ∈ ps, lstS S p = true ∨ empS S p = true) ∧ (cp S ps : Int) = k := by
  rw [lstS_iff, gp, decide_eq_true_iff, Tr.held]
  have one : ∀ p ∈ ps, ∃ R, ps.Perm (p :: R) := fun p hp => one_of hp
  constructor
  · rintro ⟨h1, h2⟩
    have h2' : ∀ x ∈ Tr.helds ps, S x = true → ¬ k ≤ (cp (offS S x) ps : Int) := fun x hx hS => by
      have := h2 x hx hS
      rw [gp, decide_eq_false_iff_not] at this
      exact this
    have part : ∀ p ∈ ps, ∀ x ∈ p.held, ∃ R, cp S ps = (if gp S p = true then 1 else 0) + cp S R ∧ cp (offS S x) ps = (if gp (offS S x) p = true then 1 else 0) + cp S R := fun p hp x hx => by
      obtain ⟨R, hR⟩ := one p hp
      obtain ⟨_, _, ap⟩ := apart hR n
      refine ⟨R, ?_, ?_⟩
      · rw [cp_perm S hR, cp_cons]
      · rw [cp_perm _ hR, cp_cons, off_outs (ap x hx)]
    refine ⟨fun p hp => ?_, ?_⟩
    · have op := oks_all.mp o p hp
      cases hg : gp S p with
      | true =>
        refine .inl (lstS_iff.mpr ⟨hg, fun x hx hS => ?_⟩)
        obtain ⟨R, e1, e2⟩ := part p hp x hx
        have := h2' x (in_helds hp hx) hS
        rw [e2] at this
        rw [e1, hg, if_pos rfl] at h1
        cases hgo : gp (offS S x) p with
        | false => rfl
        | true =>
          rw [hgo, if_pos rfl] at this
          exact absurd h1 this
      | false =>
        refine .inr (empS_iff.mpr fun x hx => ?_)
        cases hS : S x with
        | false => rfl
        | true =>
          obtain ⟨R, e1, e2⟩ := part p hp x hx
          have := h2' x (in_helds hp hx) hS
          rw [e2] at this
          rw [e1, hg, if_neg Bool.false_ne_true] at h1
          exact absurd (by split <;> omega) this
    · refine Decidable.byContradiction fun q => ?_
      have hgt : k + 1 ≤ (cp S ps : Int) := by omega
      obtain ⟨p, hp, hg⟩ : ∃ p ∈ ps, gp S p = true := by
        refine Decidable.byContradiction fun q2 => ?_
        have : cp S ps = 0 := by
          rw [cp_eq, List.length_eq_zero_iff, List.filter_eq_nil_iff]
          intro p hp hg
          exact q2 ⟨p, hp, hg⟩
        omega
      obtain ⟨x, hx, hS⟩ := goes_some (oks_all.mp o p hp) hg
      obtain ⟨R, e1, e2⟩ := part p hp x hx
      have := h2' x (in_helds hp hx) hS
      rw [e2] at this
      rw [e1, hg, if_pos rfl] at hgt
      exact this (by split <;> omega)
  · rintro ⟨h1, h2⟩
    refine ⟨by omega, fun x hx hS => ?_⟩
    obtain ⟨p, hp, hxp⟩ := part_of hx
    obtain ⟨R, hR⟩ := one p hp
    obtain ⟨_, _, ap⟩ := apart hR n
    have hl : lstS S p = true := (h1 p hp).resolve_right fun q => by
      rw [empS_iff.mp q x hxp] at hS
      cases hS
    have := (lstS_iff.mp hl)
    rw [gp, decide_eq_false_iff_not, cp_perm _ hR, cp_cons, off_outs (ap x hxp), this.2 x hxp hS, if_neg Bool.false_ne_true]
    rw [cp_perm S hR, cp_cons, this.1, if_pos rfl] at h2
    omega
def inS (L : List Int) : Int → Bool := fun i => decide (i ∈ L)
def lstL (t : Tr) (L : List Int) : Nat := ind (lstS (inS L) t)
def empL (t : Tr) (L : List Int) : Nat := ind (empS (inS L) t)
theorem lst_local (t : Tr) : LocalTo t.held (lstL t) := fun L M e => by
  unfold lstL
  rw [lst_congr (R := inS M) fun x hx => by unfold inS; simp only [e x hx]]
theorem emp_local (t : Tr) : LocalTo t.held (empL t) := fun L M e => by
  unfold empL
  rw [emp_congr (R := inS M) fun x hx => by unfold inS; simp only [e x hx]]
def fitS (S : Int → Bool) (qs : List Tr) : Bool := qs.all fun p => lstS S p || empS S p
theorem sel_lst : ∀ (qs : List Tr) (j : Nat) (L : List Int), Tr.oks qs → selR lstL empL qs j L = ind (fitS (inS L) qs && decide (cp (inS L) qs = j))
  | [], j, L, _ => by
    rw [selR, cp]
    by_cases h : j = 0
    · subst h; rfl
    · rw [if_neg h, decide_eq_false (fun q => h q.symm)]; simp [ind]
  | p :: r, 0, L, o => by
    rw [Tr.oks] at o
    rw [selR, sel_lst r 0 L o.2, cp_cons]
    unfold fitS empL
    rw [List.all_cons]
    cases he : empS (inS L) p with
    | true =>
      have hg := emp_fails o.1 he
      rw [hg]
      simp [ind]
    | false =>
      cases hl : lstS (inS L) p with
      | true =>
        have hg := (lstS_iff.mp hl).1
        rw [hg]
        simp [ind]
      | false => simp [ind]
  | p :: r, j + 1, L, o => by
    rw [Tr.oks] at o
    rw [selR, sel_lst r (j + 1) L o.2, sel_lst r j L o.2, cp_cons]
    unfold fitS empL lstL
    rw [List.all_cons]
    cases he : empS (inS L) p with
    | true =>
      have hg := emp_fails o.1 he
      have hl : lstS (inS L) p = false := by
        cases h : lstS (inS L) p with
        | false => rfl
        | true => rw [(lstS_iff.mp h).1] at hg; cases hg
      rw [hg, hl]
      simp [ind]
    | false =>
      cases hl : lstS (inS L) p with
      | true =>
        have hg := (lstS_iff.mp hl).1
        have : (1 + cp (inS L) r = j + 1) ↔ cp (inS L) r = j := by omega
        rw [hg]
        simp [ind, this]
      | false => simp [ind]
/-- the pair of a tree: of its least lots, and of its being without a button in the lot -/
def pairL (a b : Int → Nat) (t : Tr) : Nat × Nat := (cs a b t.held (lstL t), cs a b t.held (empL t))
theorem pairL_b (a b : Int → Nat) (i : Int) : pairL a b (.b i) = (a i, b i) := by
  unfold pairL
  rw [Tr.held, cs, cs, cs, cs, cs, cs]
  have l0 : lstL (.b i) [] = 0 := by
    unfold lstL
    have : lstS (inS []) (.b i) = false := by
      unfold lstS inS
      rw [gp]
      simp
    rw [this]; rfl
  have l1 : lstL (.b i) [i] = 1 := by
    unfold lstL
    have : lstS (inS [i]) (.b i) = true := by
      rw [lstS_iff, gp]
      refine ⟨by simp [inS], fun x hx _ => ?_⟩
      rw [Tr.held, List.mem_singleton] at hx
      subst hx
      rw [gp]
      simp [offS]
    rw [this]; rfl
  have e0 : empL (.b i) [] = 1 := by
    unfold empL
    have : empS (inS []) (.b i) = true := empS_iff.mpr fun x _ => by simp [inS]
    rw [this]; rfl
  have e1 : empL (.b i) [i] = 0 := by
    unfold empL
    have : empS (inS [i]) (.b i) = false := by
      cases h : empS (inS [i]) (.b i) with
      | false => rfl
      | true =>
        have := empS_iff.mp h i (by rw [Tr.held]; exact List.mem_singleton.mpr rfl)
        simp [inS] at this
    rw [this]; rfl
  rw [l0, l1, e0, e1]
  simp
theorem helds_rev_nodup {ps : List Tr} (n : (Tr.helds ps).Nodup) : (Tr.helds ps.reverse).Nodup := by
  refine (List.Perm.nodup_iff ?_).mpr n
  rw [helds_eq, helds_eq]
  exact (List.reverse_perm ps).flatMap_right _
theorem cp_rev (S : Int → Bool) (ps : List Tr) : cp S ps.reverse = cp S ps := cp_perm S (List.reverse_perm ps)
theorem fit_rev (S : Int → Bool) (ps : List Tr) : fitS S ps.reverse = fitS S ps := by unfold fitS; rw [List.all_reverse]
theorem pairL_t (a b : Int → Nat) {k : Nat} {ps : List Tr} (o : Tr.oks ps) (n : (Tr.helds ps).Nodup) (hk : 1 ≤ k) : pairL a b (.t (k : Int) ps) = (tc (ps.map (pairL a b)) k, tc (ps.map (pairL a b)) 0) := by
  have or : Tr.oks ps.reverse := oks_all.mpr fun p hp => oks_all.mp o p (List.mem_reverse.mp hp)
  have h := fun j => cs_sel (a := a) (b := b) (A := lstL) (B := empL) ps.reverse j (fun p _ => ⟨lst_local p, emp_local p⟩) (helds_rev_nodup n)
  have e : ps.reverse.map (fun p => (cs a b p.held (lstL p), cs a b p.held (empL p))) = (ps.map (pairL a b)).reverse := by rw [← List.map_reverse]; rfl
  unfold pairL
  rw [Tr.held]
  unfold tc
  rw [← List.map_reverse] at *
  refine Prod.ext ?_ ?_
  · show cs a b (Tr.helds ps) (lstL (.t k ps)) = tcR _ k
    rw [← h k, List.reverse_reverse]
    refine cs_congr fun L _ => ?_
    rw [sel_lst _ _ _ or, cp_rev, fit_rev]
    unfold lstL
    congr 1
    rw [Bool.eq_iff_iff, lst_trip o n (by omega), Bool.and_eq_true, decide_eq_true_iff]
    unfold fitS
    rw [List.all_eq_true]
    simp only [Bool.or_eq_true]
    constructor
    · rintro ⟨a1, a2⟩; exact ⟨a1, by omega⟩
    · rintro ⟨a1, a2⟩; exact ⟨a1, by omega⟩
  · show cs a b (Tr.helds ps) (empL (.t k ps)) = tcR _ 0
    rw [← h 0, List.reverse_reverse]
    refine cs_congr fun L _ => ?_
    rw [sel_lst _ _ _ or, cp_rev, fit_rev]
    unfold empL
    congr 1
    rw [Bool.eq_iff_iff, empS_iff, Bool.and_eq_true, decide_eq_true_iff, Tr.held]
    unfold fitS
    rw [List.all_eq_true]
    simp only [Bool.or_eq_true]
    constructor
    · intro h1
      refine ⟨fun p hp => .inr (empS_iff.mpr fun x hx => h1 x (in_helds hp hx)), cp_off ps o h1⟩
    · rintro ⟨a1, a2⟩ x hx
      obtain ⟨p, hp, hxp⟩ := part_of hx
      refine empS_iff.mp ((a1 p hp).resolve_left fun q => ?_) x hxp
      have hg := (lstS_iff.mp q).1
      rw [cp_eq, List.length_eq_zero_iff, List.filter_eq_nil_iff] at a2
      exact a2 p hp hg
/-! ### pairs of lots that go and that fail -/
def pairG (a b : Int → Nat) (t : Tr) : Nat × Nat := (cs a b t.held fun L => ind (t.go L), cs a b t.held fun L => ind (!t.go L))
theorem pairG_b (a b : Int → Nat) (i : Int) : pairG a b (.b i) = (a i, b i) := by
  unfold pairG
  rw [Tr.held, cs, cs, cs, cs, cs, cs, Tr.go, Tr.go]
  simp [ind]
def sumFrom (f : Nat → Nat) : Nat → Nat → Nat
  | _, 0 => 0
  | s, n + 1 => f s + sumFrom f (s + 1) n
theorem cs_sumFrom {a b : Int → Nat} (X : List Int) (f : Nat → List Int → Nat) : ∀ (n s : Nat), cs a b X (fun L => sumFrom (fun j => f j L) s n) = sumFrom (fun j => cs a b X (f j)) s n
  | 0, s => cs_zero X
  | n + 1, s => by
    simp only [sumFrom]
    rw [cs_add, cs_sumFrom X f n (s + 1)]
theorem sum_one (c : Nat) : ∀ (n s : Nat), sumFrom (fun j => if c = j then 1 else 0) s n = if s ≤ c ∧ c < s + n then 1 else 0
  | 0, s => by rw [sumFrom, if_neg (by omega)]
  | n + 1, s => by
    rw [sumFrom, sum_one c n (s + 1)]
    by_cases h : c = s
    · rw [if_pos h, if_neg (by omega), if_pos (by omega)]
    · rw [if_neg h]
      by_cases h2 : s + 1 ≤ c ∧ c < s + 1 + n
      · rw [if_pos h2, if_pos (by omega)]
      · rw [if_neg h2, if_neg (by omega)]
theorem pairG_t (a b : Int → Nat) {k : Nat} {ps : List Tr} (n : (Tr.helds ps).Nodup) (hk : k ≤ ps.length) : pairG a b (.t (k : Int) ps) = (sumFrom (tc (ps.map (pairG a b))) k (ps.length + 1 - k), sumFrom (tc (ps.map (pairG a b))) 0 k) := by
  have h := fun j => cs_sel (a := a) (b := b) (A := fun p L => ind (p.go L)) (B := fun p L => ind (!p.go L)) ps.reverse j (fun p _ => ⟨go_local p, fail_local p⟩) (helds_rev_nodup n)
  have hj : ∀ j, cs a b (Tr.helds ps) (fun L => if Tr.cnt L ps = j then 1 else 0) = tc (ps.map (pairG a b)) j := fun j => by
    unfold tc
    rw [← List.map_reverse, ← show (fun p : Tr => (cs a b p.held fun L => ind (p.go L), cs a b p.held fun L => ind (!p.go L))) = pairG a b from rfl, ← h j, List.reverse_reverse]
    refine cs_congr fun L _ => ?_
    rw [sel_go, cnt_perm (List.reverse_perm ps)]
  have hf : (tc (ps.map (pairG a b))) = fun j => cs a b (Tr.helds ps) (fun L => if Tr.cnt L ps = j then 1 else 0) := by funext j; exact (hj j).symm
  unfold pairG
  rw [Tr.held]
  refine Prod.ext ?_ ?_
  · show cs a b (Tr.helds ps) (fun L => ind (Tr.go L (.t k ps))) = _
    show _ = sumFrom (tc (ps.map (pairG a b))) k (ps.length + 1 - k)
    rw [hf, ← cs_sumFrom]
    refine cs_congr fun L _ => ?_
    have := cnt_most L ps
    rw [sum_one, Tr.go]
    unfold ind
    by_cases c : (k : Int) ≤ (Tr.cnt L ps : Int)
    · rw [decide_eq_true c, if_pos rfl, if_pos (by omega)]
    · rw [decide_eq_false c, if_neg Bool.false_ne_true, if_neg (by omega)]
  · show cs a b (Tr.helds ps) (fun L => ind (!Tr.go L (.t k ps))) = _
    show _ = sumFrom (tc (ps.map (pairG a b))) 0 k
    rw [hf, ← cs_sumFrom]
    refine cs_congr fun L _ => ?_
    rw [sum_one, Tr.go]
    unfold ind
    by_cases c : (k : Int) ≤ (Tr.cnt L ps : Int)
    · rw [decide_eq_true c, Bool.not_true, if_neg Bool.false_ne_true, if_neg (by omega)]
    · rw [decide_eq_false c, Bool.not_false, if_pos rfl, if_pos (by omega)]
end Own

namespace Own
open PySem PySem.Spec PyProof.Rows L2
/-! ### buttons that must be in, or may not -/
def aW (w : Nat) (never : List Int) (x : Int) : Nat := if x ∈ never then 0 else w
def bW (must : List Int) (x : Int) : Nat := if x ∈ must then 0 else 1
def oneW (_ : Int) : Nat := 1
def condX (must never X L : List Int) : Bool := X.all fun x => (!decide (x ∈ must) || decide (x ∈ L)) && (!decide (x ∈ never) || !decide (x ∈ L))
theorem condX_iff {must never X L : List Int} : condX must never X L = true ↔ ∀ x ∈ X, (x ∈ must → x ∈ L) ∧ (x ∈ never → x ∉ L) := by
  unfold condX
  rw [List.all_eq_true]
  constructor
  · intro h x hx
    have := h x hx
    simp at this
    exact ⟨fun m => this.1.resolve_left fun q => q m, fun m => this.2.resolve_left fun q => q m⟩
  · intro h x hx
    obtain ⟨h1, h2⟩ := h x hx
    simp
    exact ⟨Decidable.or_iff_not_imp_left.mpr fun q => h1 (Decidable.not_not.mp q), Decidable.or_iff_not_imp_left.mpr fun q => h2 (Decidable.not_not.mp q)⟩
theorem cs_cond {must never : List Int} : ∀ {X : List Int} {f : List Int → Nat}, X.Nodup → cs (aW 1 never) (bW must) X f = cs oneW oneW X fun L => f L * ind (condX must never X L)
  | [], f, _ => by rw [cs, cs]; simp [condX, ind]
  | x :: X, f, hn => by
    have hn' := List.nodup_cons.mp hn
    rw [cs, cs, cs_cond hn'.2, cs_cond hn'.2]
    have e1 : (cs oneW oneW X fun L => f L * ind (condX must never (x :: X) L)) = bW must x * cs oneW oneW X fun L => f L * ind (condX must never X L) := by
      rw [← cs_mul_left]
      refine cs_congr fun L hL => ?_
      have hx : x ∉ L := fun q => hn'.1 (hL.subset q)
      have : condX must never (x :: X) L = (!decide (x ∈ must) && condX must never X L) := by
        unfold condX
        rw [List.all_cons]
        simp [hx]
      rw [this]
      unfold bW
      by_cases hm : x ∈ must <;> simp [hm, ind]
    have e2 : (cs oneW oneW X fun L => f (x :: L) * ind (condX must never (x :: X) (x :: L))) = aW 1 never x * cs oneW oneW X fun L => f (x :: L) * ind (condX must never X L) := by
      rw [← cs_mul_left]
      refine cs_congr fun L hL => ?_
      have hc : condX must never X (x :: L) = condX must never X L := by
        rw [Bool.eq_iff_iff, condX_iff, condX_iff]
        have : ∀ y ∈ X, (y ∈ x :: L ↔ y ∈ L) := fun y hy => by
          rw [List.mem_cons]
          exact ⟨fun q => q.resolve_left fun e => hn'.1 (e ▸ hy), .inr⟩
        constructor
        · intro h y hy
          have := this y hy
          exact ⟨fun m => this.mp ((h y hy).1 m), fun m q => (h y hy).2 m (this.mpr q)⟩
        · intro h y hy
          have := this y hy
          exact ⟨fun m => this.mpr ((h y hy).1 m), fun m q => (h y hy).2 m (this.mp q)⟩
      have : condX must never (x :: X) (x :: L) = (!decide (x ∈ never) && condX must never X (x :: L)) := by
        unfold condX
        rw [List.all_cons]
        simp
      rw [this, hc]
      unfold aW
      by_cases hm : x ∈ never <;> simp [hm, ind]
    rw [e1, e2]
    simp [oneW]
/-! all lots of a row, one behind another -/
def lotsOf (R : List Int) : List (List Int) := R.foldl (fun a z => a ++ a.map (· ++ [z])) [[]]
theorem lots_snoc (R : List Int) (z : Int) : lotsOf (R ++ [z]) = lotsOf R ++ (lotsOf R).map (· ++ [z]) := by
  unfold lotsOf
  rw [List.foldl_append]
  rfl
theorem snocRec {motive : List Int → Prop} (h0 : motive []) (h1 : ∀ R z, motive R → motive (R ++ [z])) (R : List Int) : motive R := by
  have : ∀ n, motive (R.take n) := fun n => by
    induction n with
    | zero => rw [List.take_zero]; exact h0
    | succ n ih =>
      by_cases hn : n < R.length
      · rw [take_snoc (List.getElem?_eq_getElem hn)]
        exact h1 _ _ ih
      · rw [List.take_of_length_le (by omega)]
        rw [List.take_of_length_le (by omega)] at ih
        exact ih
  have := this R.length
  rw [List.take_length] at this
  exact this
theorem lots_size (R : List Int) : (lotsOf R).length = 2 ^ R.length := by
  refine snocRec (motive := fun R => (lotsOf R).length = 2 ^ R.length) rfl (fun R z ih => ?_) R
  rw [lots_snoc, List.length_append, List.length_map, List.length_append, List.length_singleton, Nat.pow_succ, ih]
  omega
theorem cs_lots (R : List Int) : ∀ f : List Int → Nat, ((lotsOf R).map f).sum = cs oneW oneW R f := by
  refine snocRec (motive := fun R => ∀ f : List Int → Nat, ((lotsOf R).map f).sum = cs oneW oneW R f) (fun f => ?_) (fun R z ih f => ?_) R
  · show ([[]].map f).sum = f []
    simp
  · rw [lots_snoc, List.map_append, List.sum_append, List.map_map, ih, ih, cs_append, ← cs_add]
    refine cs_congr fun L _ => ?_
    rw [cs, cs, cs, List.append_nil]
    simp [oneW]
theorem lotOf_snoc (R : List Int) (z : Int) (m : Nat) : lotOf (R ++ [z]) m = lotOf R m ++ (if m.testBit R.length = true then [z] else []) := by
  have h : (R ++ [z])[R.length]? = some z := by simp
  have := lot_snoc m h
  rw [List.take_of_length_le (by simp), List.take_left] at this
  exact this
theorem lotOf_high {R : List Int} {m k : Nat} (hk : R.length ≤ k) : lotOf R (m + 2 ^ k) = lotOf R m := by
  unfold lotOf
  congr 1
  refine List.filter_congr fun x hx => ?_
  obtain ⟨y, q⟩ := x
  have hq := (List.getElem?_eq_some_iff.mp (List.mem_zipIdx_iff_getElem?.mp hx)).1
  dsimp only at hq ⊢
  rw [Nat.add_comm, Nat.testBit_two_pow_add_gt (by omega)]
theorem lots_at (R : List Int) : ∀ m, m < 2 ^ R.length → (lotsOf R)[m]? = some (lotOf R m) := by
  refine snocRec (motive := fun R => ∀ m, m < 2 ^ R.length → (lotsOf R)[m]? = some (lotOf R m)) (fun m hm => ?_) (fun R z ih m hm => ?_) R
  · have : m = 0 := by simp at hm; omega
    subst this
    rfl
  · rw [List.length_append, List.length_singleton, Nat.pow_succ] at hm
    rw [lots_snoc, lotOf_snoc]
    by_cases h : m < 2 ^ R.length
    · rw [List.getElem?_append_left (by rw [lots_size]; exact h), ih m h, Nat.testBit_lt_two_pow h, if_neg Bool.false_ne_true, List.append_nil]
    · obtain ⟨d, rfl⟩ : ∃ d, m = d + 2 ^ R.length := ⟨m - 2 ^ R.length, by omega⟩
      have hd : d < 2 ^ R.length := by omega
      rw [List.getElem?_append_right (by rw [lots_size]; omega), lots_size, Nat.add_sub_cancel, List.getElem?_map, ih d hd, lotOf_high (Nat.le_refl _)]
      rw [Nat.add_comm, Nat.testBit_two_pow_add_eq, Nat.testBit_lt_two_pow hd]
      rfl
theorem lots_sub {R L : List Int} (h : L ∈ lotsOf R) : L.Sublist R := by
  refine snocRec (motive := fun R => ∀ L ∈ lotsOf R, L.Sublist R) (fun L h => ?_) (fun R z ih L h => ?_) R L h
  · rw [List.mem_singleton.mp h]
    exact List.Sublist.refl _
  · rw [lots_snoc] at h
    rcases List.mem_append.mp h with q | q
    · exact (ih L q).trans (List.sublist_append_left _ _)
    · obtain ⟨M, hM, rfl⟩ := List.mem_map.mp q
      exact (ih M hM).append (List.Sublist.refl _)
/-! a bit taken out -/
theorem bit_out {m j : Nat} (h : m.testBit j = true) (i : Nat) : (m - 2 ^ j).testBit i = (m.testBit i && !decide (i = j)) := by
  have hd := Nat.div_add_mod m (2 ^ (j + 1))
  have hr : m % 2 ^ (j + 1) < 2 ^ (j + 1) := Nat.mod_lt _ (Nat.two_pow_pos _)
  generalize m / 2 ^ (j + 1) = q at hd
  generalize m % 2 ^ (j + 1) = r at hd hr
  have e : 2 ^ (j + 1) = 2 ^ j + 2 ^ j := by rw [Nat.pow_succ]; omega
  have hb : r.testBit j = true := by
    rw [← hd, Nat.testBit_two_pow_mul_add _ hr, if_pos (by omega)] at h
    exact h
  have hge : 2 ^ j ≤ r := by
    refine Decidable.byContradiction fun z => ?_
    rw [Nat.testBit_lt_two_pow (by omega)] at hb
    cases hb
  obtain ⟨s, rfl⟩ : ∃ s, r = 2 ^ j + s := ⟨r - 2 ^ j, by omega⟩
  have hs : s < 2 ^ j := by omega
  have em : m - 2 ^ j = 2 ^ (j + 1) * q + s := by omega
  rw [em, ← hd, Nat.testBit_two_pow_mul_add _ (by omega), Nat.testBit_two_pow_mul_add _ hr]
  by_cases hi : i < j + 1
  · rw [if_pos hi, if_pos hi]
    by_cases hij : i = j
    · subst hij
      rw [Nat.testBit_lt_two_pow hs]
      simp
    · rw [Nat.testBit_two_pow_add_gt (by omega)]
      simp [hij]
  · rw [if_neg hi, if_neg hi]
    have : i ≠ j := by omega
    simp [this]
theorem lot_out {R : List Int} (hn : R.Nodup) {m j : Nat} {x : Int} (hj : R[j]? = some x) (hb : m.testBit j = true) {y : Int} (hy : y ∈ R) : y ∈ lotOf R (m - 2 ^ j) ↔ y ∈ lotOf R m ∧ y ≠ x := by
  obtain ⟨i, hi, e⟩ := List.getElem_of_mem hy
  have e' := List.getElem?_eq_some_iff.mpr ⟨hi, e⟩
  rw [mem_lot hn e', mem_lot hn e', bit_out hb, Bool.and_eq_true, Bool.not_eq_true', decide_eq_false_iff_not]
  have : (i = j) ↔ y = x := by
    constructor
    · intro h
      subst h
      rw [hj] at e'
      exact (Option.some.inj e').symm
    · intro h
      subst h
      obtain ⟨h1, e1⟩ := List.getElem?_eq_some_iff.mp hj
      exact (List.getElem_inj hn).mp (e.trans e1.symm)
  rw [this]
/-- no button of the lot can be left out -/
def leastAt (t : Tr) (R : List Int) (m : Nat) : Bool := t.go (lotOf R m) && (List.range R.length).all fun j => !m.testBit j || !t.go (lotOf R (m - 2 ^ j))
theorem least_at {t : Tr} {R : List Int} (hn : R.Nodup) (hR : ∀ x, x ∈ R ↔ x ∈ t.held) (m : Nat) : leastAt t R m = lstS (inS (lotOf R m)) t := by
  have hgo : ∀ j x, R[j]? = some x → m.testBit j = true → t.go (lotOf R (m - 2 ^ j)) = gp (offS (inS (lotOf R m)) x) t := fun j x hj hb => by
    rw [go_gp]
    refine gp_congr t fun y hy => ?_
    have := lot_out hn hj hb ((hR y).mpr hy)
    unfold offS inS
    rw [Bool.eq_iff_iff, decide_eq_true_iff, this, Bool.and_eq_true, Bool.not_eq_true', decide_eq_true_iff, decide_eq_false_iff_not]
  rw [Bool.eq_iff_iff, lstS_iff]
  unfold leastAt
  rw [Bool.and_eq_true, List.all_eq_true, go_gp]
  constructor
  · rintro ⟨h1, h2⟩
    refine ⟨h1, fun x hx hS => ?_⟩
    obtain ⟨j, hj, e⟩ := List.getElem_of_mem ((hR x).mpr hx)
    have e' := List.getElem?_eq_some_iff.mpr ⟨hj, e⟩
    have hb : m.testBit j = true := (mem_lot hn e').mp (of_decide_eq_true hS)
    have := h2 j (List.mem_range.mpr hj)
    rw [hb, hgo j x e' hb] at this
    simpa using this
  · rintro ⟨h1, h2⟩
    refine ⟨h1, fun j hj => ?_⟩
    have hj := List.mem_range.mp hj
    have e' := List.getElem?_eq_getElem hj
    cases hb : m.testBit j with
    | false => rfl
    | true =>
      rw [hgo j _ e' hb, h2 _ ((hR _).mp (List.getElem_mem hj)) (decide_eq_true ((mem_lot hn e').mpr hb))]
      rfl
theorem filter_ind {α : Type} (p : α → Bool) : ∀ l : List α, (l.filter p).length = (l.map fun x => ind (p x)).sum
  | [] => rfl
  | a :: l => by
    rw [List.filter_cons, List.map_cons, List.sum_cons, ← filter_ind p l]
    cases h : p a with
    | true => rw [if_pos rfl, List.length_cons]; simp [ind]; omega
    | false => rw [if_neg Bool.false_ne_true]; simp [ind]
theorem filter_same {α : Type} {l : List α} {p q : α → Bool} (h : ∀ x ∈ l, p x = q x) : l.filter p = l.filter q := List.filter_congr h
def leastLots (t : Tr) (R : List Int) : List (List Int) := (lotsOf R).filter fun L => lstS (inS L) t
/-- how many least lots have all of must and none of never -/
theorem least_due {t : Tr} {R must never : List Int} {D : List (List Int)} (hn : R.Nodup) (hR : R.Perm t.held) (hD : D.Perm (leastLots t R)) :
    ((D.filter fun L => must.all fun x => decide (x ∈ L)).filter fun L => never.all fun x => !decide (x ∈ L)).length = if must.all (fun x => decide (x ∈ R)) = true then (pairL (aW 1 never) (bW must) t).1 else 0 := by
  rw [List.filter_filter, (hD.filter _).length_eq]
  unfold leastLots
  rw [List.filter_filter, filter_ind, cs_lots]
  by_cases hm : must.all (fun x => decide (x ∈ R)) = true
  · rw [if_pos hm]
    have hm' : ∀ x ∈ must, x ∈ R := fun x hx => of_decide_eq_true (List.all_eq_true.mp hm x hx)
    unfold pairL
    rw [← cs_perm hR (lst_local t).setwise, cs_cond hn]
    refine cs_congr fun L hL => ?_
    unfold lstL
    have : (never.all (fun x => !decide (x ∈ L)) && must.all fun x => decide (x ∈ L)) = condX must never R L := by
      rw [Bool.eq_iff_iff, Bool.and_eq_true, List.all_eq_true, List.all_eq_true, condX_iff]
      simp only [Bool.not_eq_true', decide_eq_false_iff_not, decide_eq_true_iff]
      constructor
      · rintro ⟨h1, h2⟩ x _
        exact ⟨h2 x, h1 x⟩
      · intro h
        exact ⟨fun x hx hl => (h x (hL.subset hl)).2 hx hl, fun x hx => (h x (hm' x hx)).1 hx⟩
    rw [this]
    cases condX must never R L <;> cases lstS (inS L) t <;> rfl
  · rw [if_neg hm]
    refine (cs_congr (g := fun _ => 0) fun L hL => ?_).trans (cs_zero R)
    have : (must.all fun x => decide (x ∈ L)) = false := by
      cases h : must.all fun x => decide (x ∈ L) with
      | false => rfl
      | true => exact absurd (List.all_eq_true.mpr fun x hx => decide_eq_true (hL.subset (of_decide_eq_true (List.all_eq_true.mp h x hx)))) hm
    rw [this]
    simp [ind]
/-! buttons put to must and to never -/
theorem cs_free {must never must2 never2 : List Int} {w : Nat} {X : List Int} {x : Int} {f : List Int → Nat} (hx : x ∈ X) (hf : SetWise f) (h1 : x ∉ must) (h2 : x ∉ never) (hn : X.Nodup)
    (m2 : ∀ y, y ∈ must2 ↔ y ∈ must ∨ y = x) (n2 : ∀ y, y ∈ never2 ↔ y ∈ never ∨ y = x) : cs (aW w never) (bW must) X f = cs (aW w never) (bW must2) X f + cs (aW w never2) (bW must) X f := by
  have hp := List.perm_cons_erase hx
  have hnx : x ∉ X.erase x := fun z => ((List.Nodup.mem_erase_iff hn).mp z).1 rfl
  rw [cs_perm hp hf, cs_perm hp hf, cs_perm hp hf, cs, cs, cs]
  have ex : aW w never x = w ∧ bW must x = 1 ∧ bW must2 x = 0 ∧ aW w never2 x = 0 := by
    unfold aW bW
    refine ⟨if_neg h2, if_neg h1, if_pos ((m2 x).mpr (.inr rfl)), if_pos ((n2 x).mpr (.inr rfl))⟩
  have ey : ∀ y ∈ X.erase x, bW must2 y = bW must y ∧ aW w never2 y = aW w never y := fun y hy => by
    have hyx : y ≠ x := fun e => hnx (e ▸ hy)
    unfold aW bW
    constructor
    · simp only [m2 y, hyx, or_false]
    · simp only [n2 y, hyx, or_false]
  have c1 : ∀ g, cs (aW w never) (bW must2) (X.erase x) g = cs (aW w never) (bW must) (X.erase x) g := fun g => cs_pos_congr fun y hy => ⟨rfl, (ey y hy).1⟩
  have c2 : ∀ g, cs (aW w never2) (bW must) (X.erase x) g = cs (aW w never) (bW must) (X.erase x) g := fun g => cs_pos_congr fun y hy => ⟨(ey y hy).2, rfl⟩
  rw [ex.1, ex.2.1, ex.2.2.1, ex.2.2.2, c1, c1, c2, c2]
  omega
theorem cs_none {a b : Int → Nat} {x : Int} : ∀ {X : List Int} {f : List Int → Nat}, x ∈ X → a x = 0 → b x = 0 → cs a b X f = 0
  | [], _, hx, _, _ => nomatch hx
  | y :: X, f, hx, ha, hb => by
    rw [cs]
    rcases List.mem_cons.mp hx with e | e
    · subst e; rw [ha, hb]; simp
    · rw [cs_none e ha hb, cs_none e ha hb]; simp
theorem aW_le (w : Nat) (must never : List Int) (x : Int) : aW w never x + bW must x ≤ w + 1 := by
  unfold aW bW
  split <;> split <;> omega
theorem pairL_le (w : Nat) (must never : List Int) (t : Tr) : (pairL (aW w never) (bW must) t).1 ≤ (w + 1) ^ t.held.length ∧ (pairL (aW w never) (bW must) t).2 ≤ (w + 1) ^ t.held.length :=
  ⟨cs_le _ _ (fun x _ => aW_le w must never x) fun L => ind_le _, cs_le _ _ (fun x _ => aW_le w must never x) fun L => ind_le _⟩
theorem pairG_le (w : Nat) (must never : List Int) (t : Tr) : (pairG (aW w never) (bW must) t).1 ≤ (w + 1) ^ t.held.length ∧ (pairG (aW w never) (bW must) t).2 ≤ (w + 1) ^ t.held.length :=
  ⟨cs_le _ _ (fun x _ => aW_le w must never x) fun L => ind_le _, cs_le _ _ (fun x _ => aW_le w must never x) fun L => ind_le _⟩
theorem cs_all {a b : Int → Nat} : ∀ X : List Int, cs a b X (fun _ => 1) = (X.map fun x => a x + b x).foldr (· * ·) 1
  | [] => rfl
  | x :: X => by
    rw [cs, cs_all X, List.map_cons, List.foldr_cons, Nat.add_mul]
    omega
/-- the pair's second number: none of the tree's buttons must be in -/
theorem pairL_snd (w : Nat) (must never : List Int) (t : Tr) : (pairL (aW w never) (bW must) t).2 = if t.held.any (fun x => decide (x ∈ must)) = true then 0 else 1 := by
  unfold pairL
  have key : ∀ X : List Int, cs (aW w never) (bW must) X (fun L => ind (L.all fun _ => false)) = if X.any (fun x => decide (x ∈ must)) = true then 0 else 1 := by
    intro X
    induction X with
    | nil => rfl
    | cons x X ih =>
      rw [cs, ih, List.any_cons]
      have : (cs (aW w never) (bW must) X fun L => ind ((x :: L).all fun _ => false)) = 0 := (cs_congr (g := fun _ => 0) fun L _ => by simp [ind]).trans (cs_zero X)
      rw [this]
      unfold bW
      by_cases h : x ∈ must <;> simp [h]
  rw [← key]
  refine cs_congr fun L hL => ?_
  unfold empL
  congr 1
  rw [Bool.eq_iff_iff, empS_iff, List.all_eq_true]
  unfold inS
  constructor
  · intro h x hx
    have := of_decide_eq_false (h x (hL.subset hx))
    exact absurd hx this
  · intro h x _
    refine decide_eq_false fun q => ?_
    have := h x q
    cases this
/-! how great the numbers grow -/
theorem prod_le {pr : Tr → Nat × Nat} {w : Nat} (hw : w + 1 ≤ 2 ^ 33) : ∀ qs : List Tr, Tr.oks qs → (∀ p ∈ qs, (pr p).1 ≤ (w + 1) ^ p.held.length ∧ (pr p).2 ≤ (w + 1) ^ p.held.length) → prodR (qs.map pr) ≤ 2 ^ (34 * (Tr.helds qs).length)
  | [], _, _ => by rw [List.map_nil, prodR, Tr.helds]; exact Nat.le_refl _
  | p :: r, o, h => by
    rw [Tr.oks] at o
    have ih := prod_le hw r o.2 fun q hq => h q (List.mem_cons_of_mem _ hq)
    obtain ⟨h1, h2⟩ := h p List.mem_cons_self
    have hp := ok_pos p o.1
    have e : (w + 1) ^ p.held.length ≤ 2 ^ (33 * p.held.length) := by
      rw [Nat.pow_mul]
      exact Nat.pow_le_pow_left hw _
    have e2 : (pr p).1 + (pr p).2 ≤ 2 ^ (34 * p.held.length) := by
      have : 2 ^ (33 * p.held.length + 1) ≤ 2 ^ (34 * p.held.length) := Nat.pow_le_pow_right (by decide) (by omega)
      rw [Nat.pow_succ] at this
      omega
    rw [List.map_cons]
    show ((pr p).1 + (pr p).2) * prodR (r.map pr) ≤ _
    rw [Tr.helds, List.length_append, Nat.mul_add, Nat.pow_add]
    exact Nat.mul_le_mul e2 ih
theorem tc_lt {pr : Tr → Nat × Nat} {w : Nat} (hw : w + 1 ≤ 2 ^ 33) {ps : List Tr} (o : Tr.oks ps) (hl : (Tr.helds ps).length ≤ 24) (h : ∀ p ∈ ps, (pr p).1 ≤ (w + 1) ^ p.held.length ∧ (pr p).2 ≤ (w + 1) ^ p.held.length) (n j : Nat) : tc ((ps.map pr).take n) j < 2 ^ 900 := by
  have om : ∀ p ∈ (ps.take n).reverse, p ∈ ps := fun p hp => List.mem_of_mem_take (List.mem_reverse.mp hp)
  have hlen : (Tr.helds (ps.take n).reverse).length ≤ 24 := by
    have h1 : (Tr.helds (ps.take n).reverse).Perm (Tr.helds (ps.take n)) := by
      rw [helds_eq, helds_eq]
      exact (List.reverse_perm _).flatMap_right _
    have h2 : (Tr.helds (ps.take n)).length ≤ (Tr.helds ps).length := by
      rw [helds_take_drop ps n, List.length_append]
      omega
    rw [h1.length_eq]
    omega
  have := prod_le hw (ps.take n).reverse (oks_all.mpr fun p hp => oks_all.mp o p (om p hp)) fun p hp => h p (om p hp)
  unfold tc
  rw [← List.map_take, ← List.map_reverse]
  refine Nat.lt_of_le_of_lt (Nat.le_trans (tcR_le _ j) this) (Nat.pow_lt_pow_right (by decide) (by omega))
theorem pair_lt {pr : Nat × Nat} {w m : Nat} (hw : w + 1 ≤ 2 ^ 33) (hm : m ≤ 24) (h : pr.1 ≤ (w + 1) ^ m ∧ pr.2 ≤ (w + 1) ^ m) : pr.1 < 2 ^ 900 ∧ pr.2 < 2 ^ 900 := by
  have e : (w + 1) ^ m < 2 ^ 900 := by
    refine Nat.lt_of_le_of_lt (m := 2 ^ (33 * m)) ?_ (Nat.pow_lt_pow_right (by decide) (by omega))
    rw [Nat.pow_mul]
    exact Nat.pow_le_pow_left hw _
  omega
end Own

namespace Own
open PySem PySem.Spec PyProof.Rows L2
/-! ### lists of lots, weighed -/
/-- the product of the weights of a lot -/
def wt (a b : Int → Nat) : List Int → List Int → Nat
  | [], _ => 1
  | x :: X, L => (if x ∈ L then a x else b x) * wt a b X L
theorem wt_congr {a b : Int → Nat} {L M : List Int} : ∀ {X : List Int}, (∀ x ∈ X, x ∈ L ↔ x ∈ M) → wt a b X L = wt a b X M
  | [], _ => rfl
  | x :: X, h => by
    rw [wt, wt, wt_congr (X := X) fun y hy => h y (List.mem_cons_of_mem _ hy)]
    simp only [h x List.mem_cons_self]
theorem wt_append {a b : Int → Nat} (Y L : List Int) : ∀ X : List Int, wt a b (X ++ Y) L = wt a b X L * wt a b Y L
  | [] => by rw [List.nil_append, wt, Nat.one_mul]
  | x :: X => by rw [List.cons_append, wt, wt, wt_append Y L X, Nat.mul_assoc]
def ws (a b : Int → Nat) (X : List Int) (D : List (List Int)) : Nat := (D.map (wt a b X)).sum
theorem ws_nil {a b : Int → Nat} {X : List Int} : ws a b X [] = 0 := rfl
theorem ws_cons {a b : Int → Nat} {X L : List Int} {D : List (List Int)} : ws a b X (L :: D) = wt a b X L + ws a b X D := by
  unfold ws
  rw [List.map_cons, List.sum_cons]
theorem ws_append {a b : Int → Nat} {X : List Int} (D E : List (List Int)) : ws a b X (D ++ E) = ws a b X D + ws a b X E := by
  unfold ws
  rw [List.map_append, List.sum_append]
/-- lots that hold nothing of Y -/
theorem ws_out {a b : Int → Nat} {X Y : List Int} : ∀ {D : List (List Int)}, (∀ L ∈ D, ∀ y ∈ Y, y ∉ L) → ws a b (X ++ Y) D = ws a b X D * wt a b Y []
  | [], _ => by rw [ws_nil, ws_nil, Nat.zero_mul]
  | L :: D, h => by
    rw [ws_cons, ws_cons, ws_out (D := D) fun M hM => h M (List.mem_cons_of_mem _ hM), wt_append, wt_congr (X := Y) (M := []) fun y hy => ⟨fun z => absurd z (h L List.mem_cons_self y hy), fun z => nomatch z⟩, Nat.add_mul]
theorem ws_one {a b : Int → Nat} {X Y L : List Int} (h1 : ∀ y ∈ Y, y ∉ L) : ∀ {E : List (List Int)}, (∀ M ∈ E, ∀ x ∈ X, x ∉ M) → ws a b (X ++ Y) (E.map fun M => L ++ M) = wt a b X L * ws a b Y E
  | [], _ => by rw [List.map_nil, ws_nil, ws_nil, Nat.mul_zero]
  | M :: E, h => by
    rw [List.map_cons, ws_cons, ws_cons, ws_one h1 (E := E) fun N hN => h N (List.mem_cons_of_mem _ hN), wt_append, Nat.mul_add]
    rw [wt_congr (X := X) (L := L ++ M) (M := L) fun x hx => ?_, wt_congr (X := Y) (L := L ++ M) (M := M) fun y hy => ?_]
    · rw [List.mem_append]
      exact ⟨fun z => z.elim (fun q => absurd q (h1 y hy)) id, .inr⟩
    · rw [List.mem_append]
      exact ⟨fun z => z.elim id fun q => absurd q (h M List.mem_cons_self x hx), .inl⟩
theorem ws_pairs {a b : Int → Nat} {X Y : List Int} {E : List (List Int)} (h : ∀ M ∈ E, ∀ x ∈ X, x ∉ M) : ∀ {D : List (List Int)}, (∀ L ∈ D, ∀ y ∈ Y, y ∉ L) → ws a b (X ++ Y) ((D.map fun L => E.map fun M => L ++ M).flatten) = ws a b X D * ws a b Y E
  | [], _ => by rw [List.map_nil, List.flatten_nil, ws_nil, ws_nil, Nat.zero_mul]
  | L :: D, h1 => by
    rw [List.map_cons, List.flatten_cons, ws_append, ws_cons, ws_one (h1 L List.mem_cons_self) h, ws_pairs h (D := D) fun N hN => h1 N (List.mem_cons_of_mem _ hN), Nat.add_mul]
theorem cs_emp {a b : Int → Nat} : ∀ X : List Int, cs a b X (fun L => ind (decide (L = []))) = wt a b X []
  | [] => rfl
  | x :: X => by
    rw [cs, cs_emp X, cs_congr (X := X) (g := fun _ => 0) fun L _ => ?_, cs_zero, wt]
    · simp
    · simp [ind]
theorem pair_emp (a b : Int → Nat) (t : Tr) : (pairL a b t).2 = wt a b t.held [] := by
  rw [← cs_emp]
  unfold pairL
  refine cs_congr fun L hL => ?_
  unfold empL
  congr 1
  rw [Bool.eq_iff_iff, empS_iff, decide_eq_true_iff]
  constructor
  · intro h
    refine List.eq_nil_iff_forall_not_mem.mpr fun x hx => ?_
    have := h x (hL.subset hx)
    unfold inS at this
    rw [decide_eq_true hx] at this
    cases this
  · rintro rfl x _
    rfl
/-- D lists the least lots of t -/
def LotsOf (t : Tr) (D : List (List Int)) : Prop := (∀ L ∈ D, L.Nodup ∧ (∀ x ∈ L, x ∈ t.held) ∧ L.length ≤ t.held.length) ∧ ∀ a b, ws a b t.held D = (pairL a b t).1
def RowOf (ps : List Tr) (c : Nat) (D : List (List Int)) : Prop := (∀ L ∈ D, L.Nodup ∧ (∀ x ∈ L, x ∈ Tr.helds ps) ∧ L.length ≤ (Tr.helds ps).length) ∧ ∀ a b, ws a b (Tr.helds ps) D = tc (ps.map (pairL a b)) c
theorem lots_b (i : Int) : LotsOf (.b i) [[i]] := by
  refine ⟨fun L hL => ?_, fun a b => ?_⟩
  · rw [List.mem_singleton.mp hL, Tr.held]
    exact ⟨by simp, fun x hx => hx, Nat.le_refl _⟩
  · rw [pairL_b, Tr.held, ws_cons, ws_nil, wt, wt, if_pos List.mem_cons_self, Nat.mul_one]
    rfl
theorem row_nil0 : RowOf [] 0 [[]] := by
  refine ⟨fun L hL => ?_, fun a b => ?_⟩
  · rw [List.mem_singleton.mp hL]
    exact ⟨List.nodup_nil, fun x hx => (by cases hx), Nat.zero_le _⟩
  · rw [Tr.helds, ws_cons, ws_nil, wt]
    rfl
theorem row_nil (c : Nat) : RowOf [] (c + 1) [] := ⟨fun L hL => (by cases hL), fun a b => rfl⟩
theorem helds_last (ps : List Tr) (p : Tr) : Tr.helds (ps ++ [p]) = Tr.helds ps ++ p.held := helds_snoc ps p
theorem row_step0 {ps : List Tr} {p : Tr} {D : List (List Int)} (hn : (Tr.helds (ps ++ [p])).Nodup) (h : RowOf ps 0 D) : RowOf (ps ++ [p]) 0 D := by
  rw [helds_last] at hn
  have hd := (List.nodup_append.mp hn).2.2
  refine ⟨fun L hL => ⟨(h.1 L hL).1, fun x hx => ?_, ?_⟩, fun a b => ?_⟩
  · rw [helds_last]
    exact List.mem_append.mpr (.inl ((h.1 L hL).2.1 x hx))
  · rw [helds_last, List.length_append]
    exact Nat.le_trans (h.1 L hL).2.2 (Nat.le_add_right _ _)
  · rw [helds_last, ws_out fun L hL y hy z => hd _ ((h.1 L hL).2.1 y z) _ hy rfl, h.2, List.map_append, List.map_cons, List.map_nil, ← pair_emp]
    exact (tc_snoc0 _ _ _).symm
theorem row_step {ps : List Tr} {p : Tr} {c : Nat} {D D' E : List (List Int)} (hn : (Tr.helds (ps ++ [p])).Nodup) (h : RowOf ps (c + 1) D) (h' : RowOf ps c D') (hE : LotsOf p E) :
    RowOf (ps ++ [p]) (c + 1) (D ++ (D'.map fun L => E.map fun M => L ++ M).flatten) := by
  rw [helds_last] at hn
  have hd := (List.nodup_append.mp hn).2.2
  refine ⟨fun L hL => ?_, fun a b => ?_⟩
  · rw [helds_last]
    rcases List.mem_append.mp hL with q | q
    · exact ⟨(h.1 L q).1, fun x hx => List.mem_append.mpr (.inl ((h.1 L q).2.1 x hx)), by rw [List.length_append]; exact Nat.le_trans (h.1 L q).2.2 (Nat.le_add_right _ _)⟩
    · obtain ⟨l, h1, h2⟩ := List.mem_flatten.mp q
      obtain ⟨L1, hL1, rfl⟩ := List.mem_map.mp h1
      obtain ⟨M1, hM1, rfl⟩ := List.mem_map.mp h2
      have g1 := h'.1 L1 hL1
      have g2 := hE.1 M1 hM1
      refine ⟨List.nodup_append.mpr ⟨g1.1, g2.1, fun x hx y hy => hd x (g1.2.1 x hx) y (g2.2.1 y hy)⟩, fun x hx => ?_, by rw [List.length_append, List.length_append]; exact Nat.add_le_add g1.2.2 g2.2.2⟩
      rcases List.mem_append.mp hx with z | z
      · exact List.mem_append.mpr (.inl (g1.2.1 x z))
      · exact List.mem_append.mpr (.inr (g2.2.1 x z))
  · rw [helds_last, ws_append, ws_out fun L hL y hy z => hd _ ((h.1 L hL).2.1 y z) _ hy rfl, ws_pairs (fun M hM x hx z => hd _ hx _ ((hE.1 M hM).2.1 x z) rfl) fun L hL y hy z => hd _ ((h'.1 L hL).2.1 y z) _ hy rfl, h.2, h'.2, hE.2, List.map_append, List.map_cons, List.map_nil, ← pair_emp]
    exact (tc_snoc _ _ _ _).symm
theorem lots_t {k : Nat} {ps : List Tr} {D : List (List Int)} (o : Tr.oks ps) (n : (Tr.helds ps).Nodup) (hk : 1 ≤ k) (h : RowOf ps k D) : LotsOf (.t (k : Int) ps) D := by
  refine ⟨fun L hL => ?_, fun a b => ?_⟩
  · rw [Tr.held]
    exact h.1 L hL
  · rw [Tr.held, h.2, pairL_t _ _ o n hk]
theorem wt_ones {a b : Int → Nat} (ha : ∀ x, a x = 1) (hb : ∀ x, b x = 1) (L : List Int) : ∀ X : List Int, wt a b X L = 1
  | [] => rfl
  | x :: X => by rw [wt, wt_ones ha hb L X, ha, hb]; simp
theorem ws_len {a b : Int → Nat} (ha : ∀ x, a x = 1) (hb : ∀ x, b x = 1) (X : List Int) : ∀ D : List (List Int), ws a b X D = D.length
  | [] => rfl
  | L :: D => by rw [ws_cons, ws_len ha hb X D, wt_ones ha hb, List.length_cons, Nat.add_comm]
theorem prod_one : ∀ qs : List Tr, Tr.oks qs → prodR (qs.map (pairL (aW 1 []) (bW []))) ≤ 2 ^ (2 * (Tr.helds qs).length)
  | [], _ => by rw [List.map_nil, prodR, Tr.helds]; exact Nat.le_refl _
  | p :: r, o => by
    rw [Tr.oks] at o
    have ih := prod_one r o.2
    have h1 := (pairL_le 1 [] [] p).1
    have h2 : (pairL (aW 1 []) (bW []) p).2 = 1 := by
      rw [pair_emp]
      exact wt_ones (fun x => by unfold aW; rw [if_neg (by simp)]) (fun x => by unfold bW; rw [if_neg (by simp)]) _ _
    have h3 : 1 ≤ p.held.length := ok_pos p o.1
    rw [List.map_cons, prodR, Tr.helds, List.length_append, Nat.mul_add, Nat.pow_add]
    refine Nat.mul_le_mul ?_ ih
    rw [h2]
    have h4 : 2 ^ p.held.length + 1 ≤ 2 ^ p.held.length * 2 ^ p.held.length := by
      have : 2 ≤ 2 ^ p.held.length := by
        have := Nat.pow_le_pow_right (n := 2) (by decide) h3
        simpa using this
      have h6 := Nat.mul_le_mul_left (2 ^ p.held.length) this
      omega
    have h5 : 2 ^ (2 * p.held.length) = 2 ^ p.held.length * 2 ^ p.held.length := by rw [← Nat.pow_add]; congr 1; omega
    rw [h5]
    have h7 : (1 + 1) ^ p.held.length = 2 ^ p.held.length := rfl
    omega
theorem row_len {ps : List Tr} {c : Nat} {D : List (List Int)} (o : Tr.oks ps) (h : RowOf ps c D) : D.length ≤ 2 ^ (2 * (Tr.helds ps).length) := by
  have e := h.2 (aW 1 []) (bW [])
  rw [ws_len (fun x => by unfold aW; rw [if_neg (by simp)]) (fun x => by unfold bW; rw [if_neg (by simp)])] at e
  rw [e]
  refine Nat.le_trans (tcR_le _ _) ?_
  have o2 : Tr.oks ps.reverse := oks_all.mpr fun p hp => oks_all.mp o p (List.mem_reverse.mp hp)
  have := prod_one ps.reverse o2
  rw [List.map_reverse] at this
  have hl : (Tr.helds ps.reverse).length = (Tr.helds ps).length := by
    have h1 : (Tr.helds ps.reverse).Perm (Tr.helds ps) := by
      rw [helds_eq, helds_eq]
      exact (List.reverse_perm _).flatMap_right _
    exact h1.length_eq
  rw [hl] at this
  exact this
/-! ### which lots they are -/
def subR (R L : List Int) : List Int := R.filter fun x => decide (x ∈ L)
theorem mem_subR {R L : List Int} {x : Int} : x ∈ subR R L ↔ x ∈ R ∧ x ∈ L := by
  unfold subR
  rw [List.mem_filter, decide_eq_true_iff]
theorem subR_self {R L : List Int} : subR R (subR R L) = subR R L := by
  unfold subR
  refine List.filter_congr fun x hx => ?_
  simp [hx]
theorem subR_sub {R L : List Int} (hn : R.Nodup) (h : L.Sublist R) : subR R L = L := by
  induction h with
  | slnil => rfl
  | @cons l₁ l₂ a h ih =>
    have hn' := List.nodup_cons.mp hn
    have := ih hn'.2
    unfold subR at this ⊢
    rw [List.filter_cons, if_neg (by rw [decide_eq_true_iff]; exact fun z => hn'.1 (h.subset z))]
    exact this
  | @cons_cons l₁ l₂ a h ih =>
    have hn' := List.nodup_cons.mp hn
    have := ih hn'.2
    unfold subR at this ⊢
    rw [List.filter_cons, if_pos (by rw [decide_eq_true_iff]; exact List.mem_cons_self)]
    congr 1
    refine Eq.trans (List.filter_congr fun x hx => ?_) this
    have : x ≠ a := fun z => hn'.1 (z ▸ hx)
    simp [this]
theorem lots_mem {R L : List Int} : L.Sublist R → L ∈ lotsOf R := by
  refine snocRec (motive := fun R => ∀ L : List Int, L.Sublist R → L ∈ lotsOf R) (fun L h => ?_) (fun R z ih L h => ?_) R L
  · rw [List.sublist_nil.mp h]
    exact List.mem_singleton.mpr rfl
  · rw [lots_snoc, List.mem_append]
    obtain ⟨l1, l2, rfl, h1, h2⟩ := List.sublist_append_iff.mp h
    obtain rfl | rfl : l2 = [] ∨ l2 = [z] := by
      cases h2 with
      | cons _ h => exact .inl (List.sublist_nil.mp h)
      | cons_cons _ h => rw [List.sublist_nil.mp h]; exact .inr rfl
    · rw [List.append_nil]
      exact .inl (ih _ h1)
    · exact .inr (List.mem_map.mpr ⟨l1, ih _ h1, rfl⟩)
theorem lots_nodup (R : List Int) : R.Nodup → (lotsOf R).Nodup := by
  refine snocRec (motive := fun R => R.Nodup → (lotsOf R).Nodup) (fun _ => ?_) (fun R z ih hn => ?_) R
  · show ([[]] : List (List Int)).Nodup
    simp
  · obtain ⟨h1, _, h3⟩ := List.nodup_append.mp hn
    rw [lots_snoc]
    refine List.nodup_append.mpr ⟨ih h1, ?_, fun x hx y hy => ?_⟩
    · refine List.Pairwise.map _ (fun a b hab z => hab (List.append_cancel_right z)) (ih h1)
    · obtain ⟨m, hm, rfl⟩ := List.mem_map.mp hy
      rintro rfl
      have := (lots_sub hx).subset (List.mem_append.mpr (.inr (List.mem_singleton.mpr rfl)) : z ∈ m ++ [z])
      exact h3 z this z (List.mem_singleton.mpr rfl) rfl
def inW (S : List Int) (x : Int) : Nat := if x ∈ S then 1 else 0
def outW (S : List Int) (x : Int) : Nat := if x ∈ S then 0 else 1
theorem cs_pick (S : List Int) : ∀ (X : List Int) (f : List Int → Nat), cs (inW S) (outW S) X f = f (subR X S)
  | [], f => rfl
  | x :: X, f => by
    rw [cs, cs_pick S X, cs_pick S X]
    unfold inW outW subR
    by_cases h : x ∈ S
    · rw [if_pos h, if_pos h, List.filter_cons, if_pos (decide_eq_true h)]
      omega
    · rw [if_neg h, if_neg h, List.filter_cons, if_neg (by rw [decide_eq_false h]; exact Bool.false_ne_true)]
      omega
theorem wt_pick {S L : List Int} : ∀ X : List Int, wt (inW S) (outW S) X L = ind (X.all fun x => decide (x ∈ L ↔ x ∈ S))
  | [] => rfl
  | x :: X => by
    rw [wt, wt_pick X, List.all_cons]
    unfold inW outW
    by_cases h1 : x ∈ L <;> by_cases h2 : x ∈ S <;> simp [h1, h2, ind]
theorem lots_perm {t : Tr} {R : List Int} {D : List (List Int)} (hn : R.Nodup) (hR : R.Perm t.held) (hD : LotsOf t D) : (D.map (subR R)).Perm (leastLots t R) := by
  refine List.perm_iff_count.mpr fun S => ?_
  have hld : (leastLots t R).Nodup := (lots_nodup R hn).filter _
  by_cases hS : subR R S = S
  · have h2 := hD.2 (inW S) (outW S)
    unfold ws at h2
    have h3 : (pairL (inW S) (outW S) t).1 = ind (lstS (inS S) t) := by
      unfold pairL
      dsimp only
      rw [cs_pick]
      unfold lstL
      congr 1
      refine lst_congr fun x hx => ?_
      unfold inS
      congr 1
      exact propext ⟨fun z => (mem_subR.mp z).2, fun z => mem_subR.mpr ⟨hx, z⟩⟩
    have h4 : List.count S (D.map (subR R)) = (D.map (wt (inW S) (outW S) t.held)).sum := by
      rw [List.count_eq_length_filter, List.filter_map, List.length_map, filter_ind]
      congr 1
      refine List.map_congr_left fun L hL => ?_
      rw [wt_pick]
      congr 1
      rw [Bool.eq_iff_iff, List.all_eq_true]
      show (subR R L == S) = true ↔ _
      rw [beq_iff_eq]
      constructor
      · intro z x hx
        rw [decide_eq_true_iff, ← z, mem_subR]
        exact ⟨fun q => ⟨hR.mem_iff.mpr hx, q⟩, fun q => q.2⟩
      · intro z
        rw [← hS]
        unfold subR
        refine List.filter_congr fun x hx => ?_
        have := of_decide_eq_true (z x (hR.mem_iff.mp hx))
        simp only [this]
    rw [h4, h2, h3, List.Nodup.count hld]
    unfold leastLots
    have h5 : S ∈ lotsOf R := lots_mem (hS ▸ List.filter_sublist)
    unfold ind
    by_cases hl : lstS (inS S) t = true
    · rw [if_pos hl, if_pos (List.mem_filter.mpr ⟨h5, hl⟩)]
    · rw [if_neg hl, if_neg (show ¬ S ∈ List.filter (fun L => lstS (inS L) t) (lotsOf R) from fun z => hl (List.mem_filter.mp z).2)]
  · rw [List.count_eq_zero.mpr fun z => ?_, List.count_eq_zero.mpr fun z => ?_]
    · unfold leastLots at z
      exact hS (subR_sub hn (lots_sub (List.mem_filter.mp z).1))
    · obtain ⟨L, _, rfl⟩ := List.mem_map.mp z
      exact hS subR_self
end Own

namespace Own
open PySem PySem.Spec PyProof.Rows L2
/-! ### least lots within lots that go -/
theorem least_lot {t : Tr} {R L : List Int} (hR : R.Perm t.held) (h : lstS (inS L) t = true) : subR R L ∈ leastLots t R := by
  unfold leastLots
  refine List.mem_filter.mpr ⟨lots_mem List.filter_sublist, ?_⟩
  rw [← h]
  refine lst_congr fun x hx => ?_
  unfold inS
  congr 1
  exact propext ⟨fun z => (mem_subR.mp z).2, fun z => mem_subR.mpr ⟨hR.mem_iff.mpr hx, z⟩⟩
mutual
theorem go_more {L M : List Int} (h : ∀ x, x ∈ L → x ∈ M) : ∀ t : Tr, t.go L = true → t.go M = true
  | .b i, e => by
    rw [Tr.go] at e ⊢
    exact decide_eq_true (h i (of_decide_eq_true e))
  | .t k ps, e => by
    rw [Tr.go] at e ⊢
    have e' := of_decide_eq_true e
    have := cnt_more h ps
    exact decide_eq_true (by omega)
theorem cnt_more {L M : List Int} (h : ∀ x, x ∈ L → x ∈ M) : ∀ ps : List Tr, Tr.cnt L ps ≤ Tr.cnt M ps
  | [] => by
    rw [Tr.cnt, Tr.cnt]
    exact Nat.le_refl _
  | p :: r => by
    have h1 := cnt_more h r
    have h2 := go_more h p
    rw [Tr.cnt, Tr.cnt]
    by_cases hp : p.go L = true
    · rw [if_pos hp, if_pos (h2 hp)]
      omega
    · rw [if_neg hp]
      omega
end
theorem least_in {t : Tr} {R : List Int} (hR : R.Perm t.held) : ∀ (n : Nat) (L : List Int), L.length ≤ n → t.go L = true → ∃ S ∈ leastLots t R, ∀ x ∈ S, x ∈ L := by
  intro n
  induction n with
  | zero =>
    intro L hn hg
    refine ⟨subR R L, least_lot hR ?_, fun x hx => (mem_subR.mp hx).2⟩
    have : L = [] := List.length_eq_zero_iff.mp (by omega)
    subst this
    rw [go_gp] at hg
    exact lstS_iff.mpr ⟨hg, fun x _ hx => by simp [inS] at hx⟩
  | succ n ih =>
    intro L hn hg
    by_cases hl : lstS (inS L) t = true
    · exact ⟨subR R L, least_lot hR hl, fun x hx => (mem_subR.mp hx).2⟩
    · have : ∃ x ∈ L, t.go (L.filter fun y => !decide (y = x)) = true := by
        refine Decidable.byContradiction fun hne => hl (lstS_iff.mpr ⟨by rw [go_gp] at hg; exact hg, fun x hx hS => ?_⟩)
        have hxL : x ∈ L := by unfold inS at hS; exact of_decide_eq_true hS
        refine Bool.eq_false_iff.mpr fun z => hne ⟨x, hxL, ?_⟩
        rw [go_gp, ← z]
        refine gp_congr t fun y _ => ?_
        unfold offS inS
        rw [Bool.eq_iff_iff, decide_eq_true_iff, List.mem_filter, Bool.and_eq_true, decide_eq_true_iff]
      obtain ⟨x, hx, hgx⟩ := this
      have hlen : (L.filter fun y => !decide (y = x)).length ≤ n := by
        have : (L.filter fun y => !decide (y = x)).length < L.length := by
          refine List.length_filter_lt_length_iff_exists.mpr ⟨x, hx, by simp⟩
        omega
      obtain ⟨S, hS, hs⟩ := ih _ hlen hgx
      exact ⟨S, hS, fun y hy => (List.mem_filter.mp (hs y hy)).1⟩
theorem least_goes {t : Tr} {R S : List Int} (h : S ∈ leastLots t R) : t.go S = true := by
  unfold leastLots at h
  have := (lstS_iff.mp (List.mem_filter.mp h).2).1
  rw [go_gp]
  exact this
theorem holds_go {t : Tr} {R L : List Int} (hR : R.Perm t.held) : (t.go L = true) ↔ ∃ S ∈ leastLots t R, ∀ x ∈ S, x ∈ L :=
  ⟨least_in hR L.length L (Nat.le_refl _), fun ⟨S, hS, h⟩ => go_more (fun x hx => h x hx) t (least_goes hS)⟩
theorem meets_go {t : Tr} {R L : List Int} (hR : R.Perm t.held) : (t.go L = true) ↔ ∀ S ∈ leastLots (con t) R, ∃ x ∈ S, x ∈ L := by
  have hc : (con t).go (R.filter fun x => !decide (x ∈ L)) = !t.go L := go_con t fun x hx => by
    rw [List.mem_filter]
    simp [hR.mem_iff.mpr hx]
  have hR2 : R.Perm (con t).held := by rw [con_held]; exact hR
  have h := holds_go (L := R.filter fun x => !decide (x ∈ L)) hR2
  rw [hc] at h
  constructor
  · intro hg S hS
    refine Decidable.byContradiction fun hne => ?_
    have : (!t.go L) = true := h.mpr ⟨S, hS, fun x hx => List.mem_filter.mpr ⟨(lots_sub (List.mem_filter.mp hS).1).subset hx, by simp; exact fun z => hne ⟨x, hx, z⟩⟩⟩
    rw [hg] at this
    cases this
  · intro hm
    refine Decidable.byContradiction fun hne => ?_
    have h1 : (!t.go L) = true := by rw [Bool.eq_false_iff.mpr hne]; rfl
    obtain ⟨S, hS, hs⟩ := h.mp h1
    obtain ⟨x, hx, hxL⟩ := hm S hS
    have := (List.mem_filter.mp (hs x hx)).2
    simp [hxL] at this
theorem is_least_eq {t : Tr} {L : List Int} (hL : ∀ x ∈ L, x ∈ t.held) : (t.go L && L.all fun x => !t.go (L.filter fun y => !decide (y = x))) = lstS (inS L) t := by
  have key : ∀ x, t.go (L.filter fun y => !decide (y = x)) = gp (offS (inS L) x) t := fun x => by
    rw [go_gp]
    refine gp_congr t fun y _ => ?_
    unfold offS inS
    rw [Bool.eq_iff_iff, decide_eq_true_iff, List.mem_filter, Bool.and_eq_true, decide_eq_true_iff]
  rw [Bool.eq_iff_iff, lstS_iff, Bool.and_eq_true, List.all_eq_true, go_gp]
  refine and_congr Iff.rfl ⟨fun h x hx hS => ?_, fun h x hx => ?_⟩
  · have := h x (by unfold inS at hS; exact of_decide_eq_true hS)
    rw [key] at this
    simpa using this
  · rw [key, h x (hL x hx) (by unfold inS; exact decide_eq_true hx)]
    rfl
theorem leastLots_mem {t : Tr} {R L : List Int} (hL : L ∈ lotsOf R) : decide (L ∈ leastLots t R) = lstS (inS L) t := by
  rw [Bool.eq_iff_iff, decide_eq_true_iff]
  unfold leastLots
  rw [List.mem_filter]
  exact ⟨fun h => h.2, fun h => ⟨hL, h⟩⟩
/-! ### going lots by their sizes -/
/-! ### is_even *--/
theorem tcR_cons0 (u v : Nat) (r : List (Nat × Nat)) : tcR ((u, v) :: r) 0 = tcR r 0 * v := by rw [tcR]
theorem tcR_consS (u v : Nat) (r : List (Nat × Nat)) (j : Nat) : tcR ((u, v) :: r) (j + 1) = tcR r (j + 1) * v + tcR r j * u := by rw [tcR]
/-- the numbers of Pascal's row n -/
def rowP (n : Nat) : Nat → Nat := tcR (List.replicate n (1, 1))
theorem rowP_0 : ∀ n, rowP n 0 = 1
  | 0 => rfl
  | n + 1 => by
    unfold rowP
    rw [List.replicate_succ, tcR_cons0]
    have := rowP_0 n
    unfold rowP at this
    rw [this]
theorem rowP_S (n j : Nat) : rowP (n + 1) (j + 1) = rowP n (j + 1) + rowP n j := by
  unfold rowP
  rw [List.replicate_succ, tcR_consS, Nat.mul_one, Nat.mul_one]
theorem rowP_high {n j : Nat} (h : n < j) : rowP n j = 0 := tcR_high _ _ (by rw [List.length_replicate]; exact h)
theorem rowP_n : ∀ n, rowP n n = 1
  | 0 => rfl
  | n + 1 => by rw [rowP_S, rowP_high (Nat.lt_succ_self n), rowP_n n]
theorem cs_pow (B : Nat) : ∀ (X : List Int) (f : List Int → Nat), cs (fun _ => B) (fun _ => 1) X f = cs oneW oneW X fun L => f L * B ^ L.length
  | [], f => by rw [cs, cs]; simp
  | x :: X, f => by
    rw [cs, cs, cs_pow B X, cs_pow B X]
    show 1 * _ + B * _ = 1 * _ + 1 * _
    congr 1
    · rw [Nat.one_mul, ← cs_mul_left]
      refine cs_congr fun L _ => ?_
      rw [List.length_cons, Nat.pow_succ, Nat.mul_left_comm, Nat.mul_comm B]
def gz (t : Tr) (j : Nat) : Nat := cs oneW oneW t.held fun L => ind (t.go L) * ind (decide (L.length = j))
def Bw (B : Nat) : List Nat → Nat
  | [] => 0
  | d :: ds => d + B * Bw B ds
theorem Bw_snoc (B : Nat) (ds : List Nat) (d : Nat) : Bw B (ds ++ [d]) = Bw B ds + d * B ^ ds.length := by
  induction ds with
  | nil => simp [Bw]
  | cons x ds ih =>
    rw [List.cons_append, Bw, Bw, ih, List.length_cons, Nat.pow_succ, Nat.mul_add, Nat.add_assoc]
    congr 2
    rw [Nat.mul_left_comm, Nat.mul_comm (B ^ ds.length)]
theorem gz_part (B : Nat) (t : Tr) : ∀ m, Bw B ((List.range m).map (gz t)) = cs oneW oneW t.held fun L => ind (t.go L) * (if L.length < m then B ^ L.length else 0)
  | 0 => by
    rw [List.range_zero, List.map_nil, Bw]
    rw [cs_congr (g := fun _ => 0) fun L _ => by rw [if_neg (by omega), Nat.mul_zero], cs_zero]
  | m + 1 => by
    rw [List.range_succ, List.map_append, List.map_cons, List.map_nil, Bw_snoc, gz_part B t m, List.length_map, List.length_range]
    unfold gz
    rw [← cs_mul_right, ← cs_add]
    refine cs_congr fun L _ => ?_
    rw [Nat.mul_assoc, ← Nat.mul_add]
    congr 1
    unfold ind
    by_cases h1 : L.length < m
    · rw [if_pos h1, if_neg (by rw [decide_eq_true_iff]; omega), if_pos (by omega), Nat.zero_mul, Nat.add_zero]
    · rw [if_neg h1]
      by_cases h2 : L.length = m
      · rw [if_pos (by rw [decide_eq_true_iff]; exact h2), if_pos (by omega), h2]
        omega
      · rw [if_neg (by rw [decide_eq_true_iff]; exact h2), if_neg (by omega)]
        omega
theorem pair_sizes (B : Nat) (t : Tr) : (pairG (aW B []) (bW []) t).1 = Bw B ((List.range (t.held.length + 1)).map (gz t)) := by
  rw [gz_part]
  unfold pairG
  dsimp only
  rw [cs_pos_congr (a' := fun _ => B) (b' := fun _ => 1) fun x _ => ⟨by unfold aW; rw [if_neg (by simp)], by unfold bW; rw [if_neg (by simp)]⟩, cs_pow]
  refine cs_congr fun L hL => ?_
  have := hL.length_le
  rw [if_pos (by omega)]
theorem cs_top : ∀ (X : List Int) (f : List Int → Nat), f X ≤ cs oneW oneW X f
  | [], f => Nat.le_refl _
  | x :: X, f => by
    rw [cs]
    have := cs_top X fun L => f (x :: L)
    show f (x :: X) ≤ 1 * _ + 1 * _
    omega
theorem gz_top {t : Tr} (o : t.ok) : gz t t.held.length ≠ 0 := by
  have h := cs_top t.held fun L => ind (t.go L) * ind (decide (L.length = t.held.length))
  have hg : t.go t.held = true := by
    rw [go_gp]
    exact gp_on t o fun x hx => decide_eq_true hx
  rw [hg, decide_eq_true rfl] at h
  unfold gz
  intro z
  rw [z] at h
  exact absurd h (by decide)
theorem gz_lt {t : Tr} (h : t.held.length ≤ 24) (j : Nat) : gz t j < 4294967296 := by
  have h1 : gz t j ≤ 2 ^ t.held.length := cs_le _ _ (fun x _ => Nat.le_refl 2) fun L => by
    have := ind_le (t.go L)
    have := ind_le (decide (L.length = j))
    exact Nat.le_trans (Nat.mul_le_mul (ind_le _) (ind_le _)) (Nat.le_refl _)
  have h2 : 2 ^ t.held.length ≤ 2 ^ 24 := Nat.pow_le_pow_right (by decide) h
  exact Nat.lt_of_le_of_lt (Nat.le_trans h1 h2) (by decide)
theorem cs_compl {a b : Int → Nat} : ∀ {X : List Int} {f : List Int → Nat}, X.Nodup → cs a b X f = cs b a X fun L => f (X.filter fun x => !decide (x ∈ L))
  | [], f, _ => rfl
  | x :: X, f, hn => by
    have hn' := List.nodup_cons.mp hn
    rw [cs, cs, cs_compl (f := f) hn'.2, cs_compl (f := fun L => f (x :: L)) hn'.2, Nat.add_comm]
    congr 1
    · congr 1
      refine cs_congr fun L hL => ?_
      rw [List.filter_cons, if_pos (by rw [Bool.not_eq_true', decide_eq_false_iff_not]; exact fun z => hn'.1 (hL.subset z))]
    · congr 1
      refine cs_congr fun L hL => ?_
      rw [List.filter_cons, if_neg (by rw [Bool.not_eq_true', decide_eq_false_iff_not]; exact fun z => z List.mem_cons_self)]
      congr 1
      refine List.filter_congr fun y hy => ?_
      have : y ≠ x := fun z => hn'.1 (z ▸ hy)
      simp [this]
theorem cs_size : ∀ (X : List Int) (j : Nat), cs oneW oneW X (fun L => ind (decide (L.length = j))) = rowP X.length j
  | [], 0 => rfl
  | [], j + 1 => rfl
  | x :: X, 0 => by
    rw [cs, cs_size X 0, List.length_cons, rowP_0, rowP_0, cs_congr (g := fun _ => 0) fun L _ => by simp [ind], cs_zero]
    rfl
  | x :: X, j + 1 => by
    rw [cs, cs_size X (j + 1), List.length_cons, rowP_S, cs_congr (f := fun L => ind (decide ((x :: L).length = j + 1))) (g := fun L => ind (decide (L.length = j))) fun L _ => by simp, cs_size X j]
    unfold oneW
    omega
theorem gz_both {t : Tr} (hn : t.held.Nodup) {j : Nat} (hj : j ≤ t.held.length) : gz t (t.held.length - j) + gz (con t) j = rowP t.held.length j := by
  unfold gz
  rw [con_held, cs_compl hn, ← cs_add, ← cs_size]
  refine cs_congr fun L hL => ?_
  have h1 : (con t).go L = !t.go (t.held.filter fun x => !decide (x ∈ L)) := go_con t fun x hx => by
    rw [List.mem_filter]
    simp [hx]
  have h2 : (t.held.filter fun x => !decide (x ∈ L)).length = t.held.length - L.length := by
    have q1 := (List.filter_append_perm (fun x => decide (x ∈ L)) t.held).length_eq
    rw [List.length_append] at q1
    have q2 : t.held.filter (fun x => decide (x ∈ L)) = L := subR_sub hn hL
    rw [q2] at q1
    omega
  have h3 := hL.length_le
  rw [h1, h2]
  have h4 : decide (t.held.length - L.length = t.held.length - j) = decide (L.length = j) := by
    congr 1
    exact propext ⟨fun h => by omega, fun h => by omega⟩
  rw [h4, ← Nat.add_mul]
  cases t.go (t.held.filter fun x => !decide (x ∈ L)) <;> simp [ind]
end Own

namespace Own
open PySem PySem.Spec PyProof.Rows L2
/-! ### factorial -/
def rFact : List V → Hp → VK → Prop := fun vs H Q => ∃ n : Nat, vs = [.int (n : Int)] ∧ n ≤ 20000 ∧ Q (.int ((Builtin.Math.factorialNat n : Nat) : Int)) H
theorem cr_factorial {X : Cx} : CallR X (.builtin "math.factorial") rFact := by
  intro pins s σ H vs us Q I r h
  obtain ⟨n, rfl, h1, q⟩ := h
  obtain ⟨u, rfl, ru⟩ := vals1 r
  obtain ⟨t, rfl⟩ := ru
  exact PySem.W.mc_factorial (Int.natCast_nonneg _) (by omega) fun _ => ⟨.int _, H, I.tok _, ⟨_, rfl⟩, by rw [Int.toNat_natCast]; exact q⟩
end Own

namespace Own
open PySem PySem.Spec PyProof.Rows L2
/-! ### lots of the other buttons at which a button turns a tree -/
def outs (z : Int) (X : List Int) : List Int := X.filter fun x => !decide (x = z)
theorem outs_in {z x : Int} {X : List Int} : x ∈ outs z X ↔ x ∈ X ∧ x ≠ z := by unfold outs; rw [List.mem_filter]; simp
theorem outs_app (z : Int) (A B : List Int) : outs z (A ++ B) = outs z A ++ outs z B := by unfold outs; exact List.filter_append ..
theorem outs_same {z : Int} {X : List Int} (h : z ∉ X) : outs z X = X := by
  unfold outs
  rw [List.filter_eq_self]
  intro x hx
  have : x ≠ z := fun e => h (by rw [← e]; exact hx)
  simp [this]
theorem outs_perm {z : Int} {X Y : List Int} (h : X.Perm Y) : (outs z X).Perm (outs z Y) := h.filter _
theorem outs_cons {z : Int} {X : List Int} (hn : X.Nodup) (hz : z ∈ X) : X.Perm (z :: outs z X) := by
  refine (List.perm_ext_iff_of_nodup hn (List.nodup_cons.mpr ⟨fun q => (outs_in.mp q).2 rfl, hn.filter _⟩)).mpr fun x => ?_
  rw [List.mem_cons, outs_in]
  constructor
  · intro h
    by_cases e : x = z
    · exact .inl e
    · exact .inr ⟨h, e⟩
  · rintro (rfl | h)
    · exact hz
    · exact h.1
def trn (t : Tr) (z : Int) (L : List Int) : Nat := ind (!t.go L) * ind (t.go (z :: L))
theorem trn_set (t : Tr) (z : Int) : SetWise (trn t z) := fun L M e => by
  have h1 := (fail_local t).setwise L M e
  have h2 := (go_local t).setwise (z :: L) (z :: M) fun x => by rw [List.mem_cons, List.mem_cons, e x]
  show ind _ * ind _ = ind _ * ind _
  rw [h1, h2]
theorem trn_le (t : Tr) (z : Int) (L : List Int) : trn t z L ≤ 1 := Nat.le_trans (Nat.mul_le_mul (ind_le _) (ind_le _)) (Nat.le_refl _)
def tp (a b : Int → Nat) (t : Tr) (z : Int) : Nat := cs a b (outs z t.held) (trn t z)
theorem tp_b (a b : Int → Nat) (z : Int) : tp a b (.b z) z = 1 := by
  unfold tp
  rw [Tr.held, show outs z [z] = [] from by unfold outs; simp, cs]
  unfold trn
  rw [Tr.go, Tr.go]
  simp [ind]
/-- just so many parts go -/
theorem cs_cnt (a b : Int → Nat) {ps : List Tr} (n : (Tr.helds ps).Nodup) (j : Nat) : cs a b (Tr.helds ps) (fun L => if Tr.cnt L ps = j then 1 else 0) = tc (ps.map (pairG a b)) j := by
  have h := cs_sel (a := a) (b := b) (A := fun p L => ind (p.go L)) (B := fun p L => ind (!p.go L)) ps.reverse j (fun p _ => ⟨go_local p, fail_local p⟩) (helds_rev_nodup n)
  unfold tc
  rw [← List.map_reverse, ← show (fun p : Tr => (cs a b p.held fun L => ind (p.go L), cs a b p.held fun L => ind (!p.go L))) = pairG a b from rfl, ← h, List.reverse_reverse]
  refine cs_congr fun L _ => ?_
  rw [sel_go, cnt_perm (List.reverse_perm ps)]
theorem erase_tr : ∀ {ps : List Tr} {i : Nat} {p : Tr}, ps[i]? = some p → ps.Perm (p :: ps.eraseIdx i)
  | [], _, _, h => by simp at h
  | q :: r, 0, p, h => by
    simp at h
    subst h
    exact List.Perm.refl _
  | q :: r, i + 1, p, h => by
    have := erase_tr (ps := r) (i := i) (p := p) (by simpa using h)
    rw [List.eraseIdx_cons_succ]
    exact (this.cons q).trans (.swap p q _)
theorem helds_perm' {A B : List Tr} (h : A.Perm B) : (Tr.helds A).Perm (Tr.helds B) := by
  rw [helds_eq, helds_eq]
  exact List.Perm.flatMap_right _ h
theorem cnt_local {L M : List Int} (ps : List Tr) (h : ∀ x ∈ Tr.helds ps, x ∈ L ↔ x ∈ M) : Tr.cnt L ps = Tr.cnt M ps := by
  rw [cnt_cp, cnt_cp]
  exact cp_congr ps fun x hx => by simp only [h x hx]
theorem go_same {L M : List Int} (t : Tr) (h : ∀ x ∈ t.held, x ∈ L ↔ x ∈ M) : t.go L = t.go M := by
  rw [go_gp, go_gp]
  exact gp_congr t fun x hx => by simp only [h x hx]
theorem tp_t (a b : Int → Nat) {k : Nat} {ps : List Tr} {i : Nat} {p : Tr} {z : Int} (n : (Tr.helds ps).Nodup) (hk : 1 ≤ k) (hp : ps[i]? = some p) (hz : z ∈ p.held) :
    tp a b (.t (k : Int) ps) z = tc ((ps.eraseIdx i).map (pairG a b)) (k - 1) * tp a b p z := by
  have hperm := erase_tr hp
  generalize ps.eraseIdx i = R at hperm ⊢
  have hh := helds_perm' hperm
  rw [Tr.helds] at hh
  have n' := hh.nodup_iff.mp n
  obtain ⟨n1, n2, n3⟩ := List.nodup_append.mp n'
  have hzR : z ∉ Tr.helds R := fun q => n3 z hz z q rfl
  have ho : (outs z (Tr.helds ps)).Perm (outs z p.held ++ Tr.helds R) := by
    refine (outs_perm hh).trans ?_
    rw [outs_app, outs_same hzR]
  unfold tp
  rw [Tr.held, cs_perm ho (trn_set _ z), cs_append, ← cs_cnt a b n2, Nat.mul_comm, ← cs_split]
  refine cs_congr fun x hx => cs_congr fun y hy => ?_
  have x1 : ∀ u ∈ Tr.helds R, u ∉ x := fun u hu q => n3 u (outs_in.mp (hx.subset q)).1 u hu rfl
  have y1 : ∀ u ∈ p.held, u ∉ y := fun u hu q => n3 u hu u (hy.subset q) rfl
  have e1 : p.go (x ++ y) = p.go x := go_same p fun u hu => by rw [List.mem_append]; exact ⟨fun q => q.elim id fun q => absurd q (y1 u hu), .inl⟩
  have e2 : p.go (z :: (x ++ y)) = p.go (z :: x) := go_same p fun u hu => by
    rw [List.mem_cons, List.mem_cons, List.mem_append]
    exact ⟨fun q => q.elim .inl fun q => q.elim .inr fun q => absurd q (y1 u hu), fun q => q.elim .inl fun q => .inr (.inl q)⟩
  have c1 : Tr.cnt (x ++ y) R = Tr.cnt y R := cnt_local R fun u hu => by rw [List.mem_append]; exact ⟨fun q => q.elim (fun q => absurd q (x1 u hu)) id, .inr⟩
  have c2 : Tr.cnt (z :: (x ++ y)) R = Tr.cnt y R := cnt_local R fun u hu => by
    rw [List.mem_cons, List.mem_append]
    exact ⟨fun q => q.elim (fun q => absurd (q ▸ hu) hzR) fun q => q.elim (fun q => absurd q (x1 u hu)) id, fun q => .inr (.inr q)⟩
  have hm : p.go x = true → p.go (z :: x) = true := fun h => go_more (fun u hu => List.mem_cons_of_mem _ hu) p h
  unfold trn
  rw [Tr.go, Tr.go, cnt_perm hperm, cnt_perm hperm, Tr.cnt, Tr.cnt, c1, c2, e1, e2]
  generalize Tr.cnt y R = c
  cases h1 : p.go x with
  | true =>
    rw [hm h1]
    have : ((k : Int) ≤ ((1 + c : Nat) : Int)) ↔ k ≤ 1 + c := by omega
    by_cases h : k ≤ 1 + c
    · rw [if_pos rfl, decide_eq_true (this.mpr h)]
      simp [ind]
    · rw [if_pos rfl, decide_eq_false fun q => h (this.mp q)]
      simp [ind]
  | false =>
    have f1 : ((k : Int) ≤ ((0 + c : Nat) : Int)) ↔ k ≤ c := by omega
    have f2 : ((k : Int) ≤ ((1 + c : Nat) : Int)) ↔ k ≤ 1 + c := by omega
    rw [if_neg Bool.false_ne_true]
    cases h2 : p.go (z :: x) with
    | false =>
      rw [if_neg Bool.false_ne_true]
      by_cases h : k ≤ c
      · rw [decide_eq_true (f1.mpr h)]
        simp [ind]
      · rw [decide_eq_false fun q => h (f1.mp q)]
        simp [ind]
    | true =>
      rw [if_pos rfl]
      by_cases h : k ≤ c
      · rw [decide_eq_true (f1.mpr h), decide_eq_true (f2.mpr (by omega)), if_neg (by omega)]
        simp [ind]
      · rw [decide_eq_false fun q => h (f1.mp q)]
        by_cases g : k ≤ 1 + c
        · rw [decide_eq_true (f2.mpr g), if_pos (by omega)]
          simp [ind]
        · rw [decide_eq_false fun q => g (f2.mp q), if_neg (by omega)]
          simp [ind]
/-! by size -/
def tz (t : Tr) (z : Int) (j : Nat) : Nat := cs oneW oneW (outs z t.held) fun L => trn t z L * ind (decide (L.length = j))
theorem bw_part (B : Nat) (X : List Int) (f : List Int → Nat) : ∀ m, Bw B ((List.range m).map fun j => cs oneW oneW X fun L => f L * ind (decide (L.length = j))) = cs oneW oneW X fun L => f L * (if L.length < m then B ^ L.length else 0)
  | 0 => by
    rw [List.range_zero, List.map_nil, Bw]
    rw [cs_congr (g := fun _ => 0) fun L _ => by rw [if_neg (by omega), Nat.mul_zero], cs_zero]
  | m + 1 => by
    rw [List.range_succ, List.map_append, List.map_cons, List.map_nil, Bw_snoc, bw_part B X f m, List.length_map, List.length_range]
    rw [← cs_mul_right, ← cs_add]
    refine cs_congr fun L _ => ?_
    rw [Nat.mul_assoc, ← Nat.mul_add]
    congr 1
    unfold ind
    by_cases h1 : L.length < m
    · rw [if_pos h1, if_neg (by rw [decide_eq_true_iff]; omega), if_pos (by omega), Nat.zero_mul, Nat.add_zero]
    · rw [if_neg h1]
      by_cases h2 : L.length = m
      · rw [if_pos (by rw [decide_eq_true_iff]; exact h2), if_pos (by omega), h2]
        omega
      · rw [if_neg (by rw [decide_eq_true_iff]; exact h2), if_neg (by omega)]
        omega
theorem outs_len {z : Int} {X : List Int} (hz : z ∈ X) : (outs z X).length < X.length := by
  refine Nat.lt_of_le_of_ne (List.length_filter_le _ _) fun h => ?_
  have := List.length_filter_eq_length_iff.mp h z hz
  simp at this
theorem tp_sizes (B : Nat) {t : Tr} {z : Int} (hz : z ∈ t.held) : tp (aW B []) (bW []) t z = Bw B ((List.range t.held.length).map (tz t z)) := by
  have h := bw_part B (outs z t.held) (trn t z) t.held.length
  refine Eq.trans ?_ h.symm
  unfold tp
  rw [cs_pos_congr (a' := fun _ => B) (b' := fun _ => 1) fun x _ => ⟨by unfold aW; rw [if_neg (by simp)], by unfold bW; rw [if_neg (by simp)]⟩, cs_pow]
  refine cs_congr fun L hL => ?_
  have := hL.length_le
  have := outs_len hz
  rw [if_pos (by omega)]
theorem tz_lt {t : Tr} (h : t.held.length ≤ 24) (z : Int) (j : Nat) : tz t z j < 4294967296 := by
  have h1 : tz t z j ≤ 2 ^ (outs z t.held).length := cs_le _ _ (fun x _ => Nat.le_refl 2) fun L => by
    exact Nat.le_trans (Nat.mul_le_mul (trn_le _ _ _) (ind_le _)) (Nat.le_refl _)
  have h0 : (outs z t.held).length ≤ t.held.length := List.length_filter_le _ _
  have h2 : 2 ^ (outs z t.held).length ≤ 2 ^ 24 := Nat.pow_le_pow_right (by decide) (by omega)
  exact Nat.lt_of_le_of_lt (Nat.le_trans h1 h2) (by decide)
/-- over all lots of a row -/
theorem tz_lots {t : Tr} {R : List Int} {z : Int} (hn : R.Nodup) (hR : R.Perm t.held) (hz : z ∈ R) (j : Nat) :
    ((lotsOf R).map fun L => trn t z L * ind (decide (L.length = j))).sum = tz t z j := by
  let F : List Int → Nat := fun L => trn t z L * ind (decide ((R.filter fun x => decide (x ∈ L)).length = j))
  have hF : SetWise F := fun L M e => by
    show trn t z L * _ = trn t z M * _
    rw [trn_set t z L M e]
    have : (R.filter fun x => decide (x ∈ L)) = R.filter fun x => decide (x ∈ M) := by
      congr 1
      funext x
      simp only [e x]
    rw [this]
  have len : ∀ L : List Int, L.Sublist R → (R.filter fun x => decide (x ∈ L)).length = L.length := fun L hL => by
    refine List.Perm.length_eq ((List.perm_ext_iff_of_nodup (hn.filter _) (hn.sublist hL)).mpr fun x => ?_)
    rw [List.mem_filter, decide_eq_true_iff]
    exact ⟨fun h => h.2, fun h => ⟨hL.subset h, h⟩⟩
  have len2 : ∀ L : List Int, L.Nodup → (∀ x ∈ L, x ∈ R) → (R.filter fun x => decide (x ∈ L)).length = L.length := fun L hL hs => by
    refine List.Perm.length_eq ((List.perm_ext_iff_of_nodup (hn.filter _) hL).mpr fun x => ?_)
    rw [List.mem_filter, decide_eq_true_iff]
    exact ⟨fun h => h.2, fun h => ⟨hs x h, h⟩⟩
  rw [cs_lots]
  rw [cs_congr (g := F) fun L hL => by show _ = trn t z L * _; rw [len L hL]]
  have hzt := hR.mem_iff.mp hz
  have hnt := hR.nodup_iff.mp hn
  rw [cs_perm (hR.trans (outs_cons hnt hzt)) hF, cs]
  rw [cs_congr (f := fun L => F (z :: L)) (g := fun _ => 0) fun L _ => by
    show trn t z (z :: L) * _ = 0
    unfold trn
    rw [go_same (L := z :: z :: L) (M := z :: L) t fun u _ => by simp]
    cases t.go (z :: L) <;> simp [ind], cs_zero]
  show 1 * _ + _ = _
  rw [Nat.one_mul, Nat.mul_zero, Nat.add_zero]
  unfold tz
  refine cs_congr fun L hL => ?_
  show trn t z L * _ = _
  rw [len2 L ((hnt.filter _).sublist hL) fun x hx => hR.mem_iff.mpr (outs_in.mp (hL.subset hx)).1]
end Own

namespace Own
open PySem PySem.Spec PyProof.Rows L2
theorem tuple_mul1 (l : Addr) (items : Array Value) (n : Nat) (dd : Option Addr) (sl : Array (Option Value)) (u : Tok) :
    Meets (Builtin.«tuple.__mul__» ⟨[.ref l, .int 1 u], []⟩) (fun _ R s => s.heap.get? l = some { cls := .type "tuple", dict := dd, data := .seq items n, slots := sl } ∧
      R (.ok (.ret (Value.ref l))) s) :=
  .of_wp fun prog w A R s h => by
    obtain ⟨hp, g, d, tk, os⟩ := s
    obtain ⟨hl, h⟩ := h
    have f1 := AutoSeq1.idx_int
    wp_walk using wpAny_loadPart' hl
    exact ⟨_, rfl, h⟩
theorem tuple_mul0 (l : Addr) (items : Array Value) (n : Nat) (dd : Option Addr) (sl : Array (Option Value)) (u : Tok) (c1 : (items.isEmpty || (0 : Int) == 1) = false) :
    Meets (Builtin.«tuple.__mul__» ⟨[.ref l, .int 0 u], []⟩) (fun _ R s => s.heap.get? l = some { cls := .type "tuple", dict := dd, data := .seq items n, slots := sl } ∧
      R (.ok (.ret (Value.ref s.heap.objs.size))) { s with heap := s.heap.push { cls := Value.type "tuple", data := Data.seq #[] }, toks := s.toks }) :=
  .of_wp fun prog w A R s h => by
    obtain ⟨hp, g, d, tk, os⟩ := s
    obtain ⟨hl, h⟩ := h
    have f1 := AutoSeq1.idx_int
    wp_walk using wpAny_loadPart' hl
    repeat (first
      | (refine wpAny_ite_false (decide_eq_false (by rw [c1]; exact Bool.false_ne_true)) ?_; wp_walk using wpAny_loadPart' hl))
    exact ⟨_, rfl, h⟩
/-- a tuple that is not empty, no times or once -/
def rRep01 (K : PySem.W.Frag) : R2 := fun x y H Q => ∃ l k xs, x = .ref l ∧ y = .int k ∧ SqT K H l xs ∧ xs ≠ [] ∧ (k = 0 ∨ k = 1) ∧ (k = 1 → Q (.ref l) H) ∧ (k = 0 → ∀ p, H p = none → Q (.ref p) (upd H p (.tup [])))
theorem op_rep01 {X : Cx} : OpR X (binaryOp .Mult) (rRep01 X.K) := by
  intro pins s σ H x y v u Q I rx ry h
  obtain ⟨l, k, xs, rfl, rfl, hT, hne, hk, q1, q0⟩ := h
  cases rx
  obtain ⟨t, rfl⟩ := ry
  obtain ⟨its, r, ⟨⟨cls, dd, data, sl⟩, ho, hc, n, hd⟩, hs⟩ := I.tuple hT
  simp only at hc hd
  subst hc hd
  have hle : its.length = xs.length := r.length.symm
  have hn : its ≠ [] := fun e => hne (by
    rw [e] at hle
    exact List.eq_nil_of_length_eq_zero hle.symm)
  have hi : its.toArray.isEmpty = false := by
    cases its with
    | nil => exact absurd rfl hn
    | cons a b => rfl
  rcases hk with rfl | rfl
  · refine wpAny_binaryOp_repeat_ref (T := "tuple") (U := "int") (by decide) ⟨_, ho, rfl⟩ (fun s' => typeIs_int s' 0 t) noFill_tuple_mul F.fills_int_mul F.slot_int_rmul repeat_tuple F.slot_int_index.lookup
      (call_meets F.slot_int_rmul (typeIs_int s 0 t) F.entry_int_rmul (F.args_int_rmul_2 _ _) (int_rmul_tuple 0 t l its.toArray n dd sl)
        ⟨ho, rfl, ⟨_, ho, rfl⟩, call_meets F.slot_tuple_mul ⟨_, ho, rfl⟩ F.entry_tuple_mul (F.args_tuple_mul_2 _ _) (tuple_mul0 l its.toArray n dd sl t (by rw [hi]; rfl)) ⟨ho, ?_⟩⟩)
    refine ⟨.ref s.heap.objs.size, _, I.laid (t' := s.toks) (o := .tup []) (fun b ob q => Heap.get?_push_of_some _ q) (Nat.le_refl _) ?_, rfl, q0 rfl _ (I.hok.fresh (Nat.le_refl _))⟩
    exact ⟨Nat.zero_le _, [], .nil, IsTup.new _ _⟩
  · refine wpAny_binaryOp_repeat_ref (T := "tuple") (U := "int") (by decide) ⟨_, ho, rfl⟩ (fun s' => typeIs_int s' 1 t) noFill_tuple_mul F.fills_int_mul F.slot_int_rmul repeat_tuple F.slot_int_index.lookup
      (call_meets F.slot_int_rmul (typeIs_int s 1 t) F.entry_int_rmul (F.args_int_rmul_2 _ _) (int_rmul_tuple 1 t l its.toArray n dd sl)
        ⟨ho, rfl, ⟨_, ho, rfl⟩, call_meets F.slot_tuple_mul ⟨_, ho, rfl⟩ F.entry_tuple_mul (F.args_tuple_mul_2 _ _) (tuple_mul1 l its.toArray n dd sl t) ⟨ho, ?_⟩⟩)
    exact ⟨.ref l, H, I, rfl, q1 rfl⟩
end Own

namespace Own
open PySem PySem.Spec PyProof.Rows L2
/-! ### lots of so many, and orders -/
def fac (n : Nat) : Nat := Builtin.Math.factorialNat n
theorem fac_0 : fac 0 = 1 := rfl
theorem fac_S (n : Nat) : fac (n + 1) = fac n * (n + 1) := PySem.W.mc_fac_succ n
def EE (X : List Int) (i : Nat) (f : List Int → Nat) : Nat := cs oneW oneW X fun S => f S * ind (decide (S.length = i))
theorem EE_0 (y : Int) (X : List Int) (f : List Int → Nat) : EE (y :: X) 0 f = EE X 0 f := by
  unfold EE
  rw [cs]
  show 1 * _ + 1 * _ = _
  rw [cs_congr (f := fun L => f (y :: L) * ind (decide ((y :: L).length = 0))) (g := fun _ => 0) fun L _ => by simp [ind], cs_zero]
  omega
theorem EE_S (y : Int) (X : List Int) (i : Nat) (f : List Int → Nat) : EE (y :: X) (i + 1) f = EE X (i + 1) f + EE X i fun S => f (y :: S) := by
  unfold EE
  rw [cs]
  show 1 * _ + 1 * _ = _
  rw [Nat.one_mul, Nat.one_mul]
  congr 1
  refine cs_congr fun L _ => ?_
  congr 2
  rw [List.length_cons]
  by_cases h : L.length = i
  · rw [decide_eq_true h, decide_eq_true (by omega)]
  · rw [decide_eq_false h, decide_eq_false (by omega)]
theorem EE_congr {X : List Int} {i : Nat} {f g : List Int → Nat} (h : ∀ L, L.Sublist X → f L = g L) : EE X i f = EE X i g := cs_congr fun L hL => by rw [h L hL]
theorem EE_add (X : List Int) (i : Nat) (f g : List Int → Nat) : EE X i (fun L => f L + g L) = EE X i f + EE X i g := by
  unfold EE
  rw [← cs_add]
  exact cs_congr fun L _ => Nat.add_mul _ _ _
theorem EE_all : ∀ (X : List Int) (f : List Int → Nat), EE X X.length f = f X
  | [], f => by unfold EE; rw [cs]; simp [ind]
  | y :: X, f => by
    rw [List.length_cons, EE_S, EE_all X]
    have : EE X (X.length + 1) f = 0 := by
      unfold EE
      rw [cs_congr (g := fun _ => 0) fun L hL => by
        have := hL.length_le
        rw [decide_eq_false (by omega)]
        simp [ind], cs_zero]
    rw [this, Nat.zero_add]
def dsum (X : List Int) (f : List Int → Nat) (S : List Int) : Nat := ((X.filter fun x => !decide (x ∈ S)).map fun x => f (x :: S)).sum
theorem dsum_set {X : List Int} {f : List Int → Nat} (hf : SetWise f) : SetWise (dsum X f) := fun L M e => by
  unfold dsum
  have h1 : (X.filter fun x => !decide (x ∈ L)) = X.filter fun x => !decide (x ∈ M) := by
    congr 1
    funext x
    simp only [e x]
  rw [h1]
  congr 1
  refine List.map_congr_left fun x _ => hf _ _ fun y => ?_
  rw [List.mem_cons, List.mem_cons, e y]
theorem EE_dsum : ∀ (X : List Int) (i : Nat) (f : List Int → Nat), X.Nodup → SetWise f → EE X i (dsum X f) = (i + 1) * EE X (i + 1) f
  | [], i, f, _, _ => by
    unfold EE
    rw [cs, cs]
    simp [dsum, ind]
  | y :: X, i, f, hn, hf => by
    obtain ⟨hy, hn'⟩ := List.nodup_cons.mp hn
    have h1 : ∀ S, S.Sublist X → dsum (y :: X) f S = f (y :: S) + dsum X f S := fun S hS => by
      have : y ∉ S := fun q => hy (hS.subset q)
      unfold dsum
      rw [List.filter_cons, if_pos (by simp [this]), List.map_cons, List.sum_cons]
    have h2 : ∀ S, S.Sublist X → dsum (y :: X) f (y :: S) = dsum X (fun T => f (y :: T)) S := fun S hS => by
      unfold dsum
      rw [List.filter_cons, if_neg (by simp)]
      have e : (X.filter fun x => !decide (x ∈ y :: S)) = X.filter fun x => !decide (x ∈ S) := by
        refine List.filter_congr fun x hx => ?_
        have : x ≠ y := fun q => hy (q ▸ hx)
        simp [this]
      rw [e]
      congr 1
      refine List.map_congr_left fun x _ => hf _ _ fun z => ?_
      simp only [List.mem_cons]
      constructor
      · rintro (h | h | h)
        · exact .inr (.inl h)
        · exact .inl h
        · exact .inr (.inr h)
      · rintro (h | h | h)
        · exact .inr (.inl h)
        · exact .inl h
        · exact .inr (.inr h)
    have hfy : SetWise fun T => f (y :: T) := hf.cons y
    cases i with
    | zero =>
      rw [EE_0, EE_congr h1, EE_add, EE_S, EE_dsum X 0 f hn' hf]
      omega
    | succ i =>
      rw [EE_S, EE_congr h1, EE_add, EE_congr (f := fun S => dsum (y :: X) f (y :: S)) h2, EE_dsum X (i + 1) f hn' hf, EE_dsum X i _ hn' hfy, EE_S]
      rw [Nat.mul_add]
      have : (i + 1 + 1) * EE X (i + 1) (fun S => f (y :: S)) = (i + 1) * EE X (i + 1) (fun S => f (y :: S)) + EE X (i + 1) (fun S => f (y :: S)) := by rw [Nat.add_mul, Nat.one_mul]
      omega
/-! all orders -/
def arr (X : List Int) : Nat → List (List Int)
  | 0 => [[]]
  | i + 1 => (arr X i).flatMap fun M => (X.filter fun x => !decide (x ∈ M)).map fun x => M ++ [x]
theorem sum_flatM {α β : Type} (g : α → List β) (f : β → Nat) : ∀ l : List α, ((l.flatMap g).map f).sum = (l.map fun a => ((g a).map f).sum).sum
  | [] => rfl
  | a :: l => by rw [List.flatMap_cons, List.map_append, List.sum_append, sum_flatM g f l, List.map_cons, List.sum_cons]
theorem arr_sum {X : List Int} (hn : X.Nodup) : ∀ (i : Nat) (f : List Int → Nat), SetWise f → ((arr X i).map f).sum = fac i * EE X i f
  | 0, f, _ => by
    rw [arr, fac_0, Nat.one_mul, List.map_singleton, List.sum_singleton]
    have : ∀ X : List Int, EE X 0 f = f [] := fun X => by
      induction X with
      | nil => unfold EE; rw [cs]; simp [ind]
      | cons y X ih => rw [EE_0, ih]
    rw [this]
  | i + 1, f, hf => by
    rw [arr, sum_flatM]
    have e : ((arr X i).map fun M => (((X.filter fun x => !decide (x ∈ M)).map fun x => M ++ [x]).map f).sum) = (arr X i).map (dsum X f) := by
      refine List.map_congr_left fun M _ => ?_
      unfold dsum
      rw [List.map_map]
      congr 1
      refine List.map_congr_left fun x _ => hf _ _ fun y => ?_
      rw [List.mem_append, List.mem_singleton, List.mem_cons]
      exact Or.comm
    rw [e, arr_sum hn i _ (dsum_set hf), EE_dsum X i f hn hf, fac_S, Nat.mul_assoc]
theorem arr_ok {X : List Int} (hn : X.Nodup) : ∀ i, ∀ M ∈ arr X i, M.length = i ∧ M.Nodup ∧ ∀ x ∈ M, x ∈ X
  | 0, M, h => by
    rw [arr] at h
    rw [List.mem_singleton.mp h]
    exact ⟨rfl, .nil, fun x hx => nomatch hx⟩
  | i + 1, M, h => by
    rw [arr] at h
    obtain ⟨M0, h0, h1⟩ := List.mem_flatMap.mp h
    obtain ⟨x, hx, rfl⟩ := List.mem_map.mp h1
    obtain ⟨hx1, hx2⟩ := List.mem_filter.mp hx
    have hx3 : x ∉ M0 := by simpa using hx2
    obtain ⟨a, b, c⟩ := arr_ok hn i M0 h0
    refine ⟨by rw [List.length_append, List.length_singleton, a], ?_, fun y hy => ?_⟩
    · rw [List.nodup_append]
      exact ⟨b, List.nodup_cons.mpr ⟨List.not_mem_nil, .nil⟩, fun u hu v hv q => hx3 (by rw [List.mem_singleton.mp hv] at q; exact q ▸ hu)⟩
    · rcases List.mem_append.mp hy with hy | hy
      · exact c y hy
      · rw [List.mem_singleton.mp hy]
        exact hx1
theorem rest_len {X M : List Int} (hn : X.Nodup) (hM : M.Nodup) (hs : ∀ x ∈ M, x ∈ X) : (X.filter fun x => !decide (x ∈ M)).length + M.length = X.length := by
  have h := List.length_eq_countP_add_countP (fun x => decide (x ∈ M)) (l := X)
  rw [List.countP_eq_length_filter, List.countP_eq_length_filter] at h
  have h1 : (X.filter fun x => decide (x ∈ M)).Perm M := (List.perm_ext_iff_of_nodup (hn.filter _) hM).mpr fun x => by
    rw [List.mem_filter, decide_eq_true_iff]
    exact ⟨fun h => h.2, fun h => ⟨hs x h, h⟩⟩
  have h2 : (X.filter fun x => decide ¬(decide (x ∈ M) = true)) = X.filter fun x => !decide (x ∈ M) := by
    congr 1
    funext x
    by_cases hx : x ∈ M <;> simp [hx]
  rw [h2, h1.length_eq] at h
  omega
theorem arr_len {X : List Int} (hn : X.Nodup) : (arr X X.length).length = fac X.length := by
  have h := arr_sum hn X.length (fun _ => 1) fun _ _ _ => rfl
  rw [EE_all, Nat.mul_one] at h
  rw [← h]
  induction (arr X X.length) with
  | nil => rfl
  | cons a l ih => rw [List.map_cons, List.sum_cons, List.length_cons, ih]; omega
/-! where it goes first -/
def pvF (g : List Int → Bool) : List Int → List Int → Option Int
  | _, [] => none
  | P, x :: r => if g (P ++ [x]) = true then some x else pvF g (P ++ [x]) r
theorem pv_snoc (g : List Int → Bool) (x : Int) : ∀ (M P : List Int), pvF g P (M ++ [x]) = match pvF g P M with | some y => some y | none => if g (P ++ M ++ [x]) = true then some x else none
  | [], P => by rw [List.nil_append, pvF, pvF, pvF, List.append_nil]
  | y :: M, P => by
    rw [List.cons_append, pvF, pvF]
    by_cases h : g (P ++ [y]) = true
    · rw [if_pos h, if_pos h]
    · rw [if_neg h, if_neg h, pv_snoc g x M (P ++ [y])]
      simp only [List.append_assoc, List.cons_append, List.nil_append]
structure Mono (g : List Int → Bool) : Prop where
  low : g [] = false
  mono : ∀ L M : List Int, (∀ x ∈ L, x ∈ M) → g L = true → g M = true
theorem Mono.same {g : List Int → Bool} (h : Mono g) {L M : List Int} (e : ∀ x, x ∈ L ↔ x ∈ M) : g L = g M := by
  cases h1 : g L with
  | true => exact (h.mono L M (fun x hx => (e x).mp hx) h1).symm
  | false =>
    cases h2 : g M with
    | false => rfl
    | true => rw [h.mono M L (fun x hx => (e x).mpr hx) h2] at h1; cases h1
theorem pv_none {g : List Int → Bool} (hg : Mono g) (M : List Int) : pvF g [] M = none ↔ g M = false := by
  refine snocRec (motive := fun M => pvF g [] M = none ↔ g M = false) ?_ (fun M x ih => ?_) M
  · rw [pvF]
    exact ⟨fun _ => hg.low, fun _ => rfl⟩
  · rw [pv_snoc, List.nil_append]
    cases h : pvF g [] M with
    | some y =>
      constructor
      · intro q; cases q
      · intro q
        have : g M = true := by
          cases h2 : g M with
          | true => rfl
          | false => rw [ih.mpr h2] at h; cases h
        rw [hg.mono M (M ++ [x]) (fun z hz => List.mem_append_left _ hz) this] at q
        cases q
    | none =>
      dsimp only
      cases h2 : g (M ++ [x]) with
      | true =>
        rw [if_pos rfl]
        constructor
        · intro q; cases q
        · intro q; cases q
      | false =>
        rw [if_neg Bool.false_ne_true]
        exact ⟨fun _ => rfl, fun _ => rfl⟩
def turnG (g : List Int → Bool) (j : Int) (M : List Int) : Nat := ind (!g M) * ind (g (j :: M))
theorem turnG_set {g : List Int → Bool} (hg : Mono g) (j : Int) : SetWise (turnG g j) := fun L M e => by
  unfold turnG
  rw [hg.same e, hg.same (L := j :: L) (M := j :: M) fun x => by rw [List.mem_cons, List.mem_cons, e x]]
def pivs (g : List Int → Bool) (X : List Int) (i : Nat) (j : Int) : Nat := ((arr X i).map fun M => ind (decide (pvF g [] M = some j))).sum
theorem sum_add' {α : Type} (f g : α → Nat) : ∀ l : List α, (l.map fun x => f x + g x).sum = (l.map f).sum + (l.map g).sum
  | [] => rfl
  | x :: l => by rw [List.map_cons, List.map_cons, List.map_cons, List.sum_cons, List.sum_cons, List.sum_cons, sum_add' f g l]; omega
theorem sum_mul' {α : Type} (f : α → Nat) (c : Nat) : ∀ l : List α, (l.map fun x => f x * c).sum = (l.map f).sum * c
  | [] => by simp
  | x :: l => by rw [List.map_cons, List.map_cons, List.sum_cons, List.sum_cons, sum_mul' f c l, Nat.add_mul]
theorem sum_const {α : Type} (c : Nat) : ∀ l : List α, (l.map fun _ => c).sum = l.length * c
  | [] => by simp
  | x :: l => by rw [List.map_cons, List.sum_cons, sum_const c l, List.length_cons, Nat.add_mul]; omega
theorem sum_one_of {X : List Int} (hn : X.Nodup) (j : Int) (f : Int → Nat) : (X.map fun x => if x = j then f x else 0).sum = if j ∈ X then f j else 0 := by
  induction X with
  | nil => rfl
  | cons y X ih =>
    obtain ⟨h1, h2⟩ := List.nodup_cons.mp hn
    rw [List.map_cons, List.sum_cons, ih h2]
    by_cases e : y = j
    · subst e
      rw [if_pos rfl, if_neg h1, if_pos List.mem_cons_self]
      rfl
    · rw [if_neg e, Nat.zero_add]
      by_cases h : j ∈ X
      · rw [if_pos h, if_pos (List.mem_cons_of_mem _ h)]
      · rw [if_neg h, if_neg fun q => (List.mem_cons.mp q).elim (fun q => e q.symm) h]
theorem pivs_S {g : List Int → Bool} (hg : Mono g) {X : List Int} (hn : X.Nodup) {j : Int} (hj : j ∈ X) (i : Nat) (hi : i < X.length) : pivs g X (i + 1) j = pivs g X i j * (X.length - i) + fac i * EE X i (turnG g j) := by
  rw [← arr_sum hn i _ (turnG_set hg j)]
  unfold pivs
  rw [arr, sum_flatM, ← sum_mul', ← sum_add']
  congr 1
  refine List.map_congr_left fun M hM => ?_
  obtain ⟨m1, m2, m3⟩ := arr_ok hn i M hM
  have hl := rest_len hn m2 m3
  have hX := hn.filter fun x => !decide (x ∈ M)
  have hmem : j ∈ (X.filter fun x => !decide (x ∈ M)) ↔ j ∉ M := by rw [List.mem_filter]; simp [hj]
  rw [List.map_map]
  generalize (X.filter fun x => !decide (x ∈ M)) = W at hl hX hmem
  cases h : pvF g [] M with
  | some y =>
    have hgM : g M = true := by
      cases h2 : g M with
      | true => rfl
      | false => rw [(pv_none hg M).mpr h2] at h; cases h
    have : turnG g j M = 0 := by unfold turnG; rw [hgM]; simp [ind]
    rw [this, Nat.add_zero]
    have e : (W.map ((fun M => ind (decide (pvF g [] M = some j))) ∘ fun x => M ++ [x])) = W.map fun _ => ind (decide (some y = some j)) := by
      refine List.map_congr_left fun x _ => ?_
      show ind (decide (pvF g [] (M ++ [x]) = some j)) = _
      rw [pv_snoc, h]
    rw [e, sum_const, Nat.mul_comm]
    congr 1
    omega
  | none =>
    have hgM := (pv_none hg M).mp h
    rw [show decide ((none : Option Int) = some j) = false from by simp]
    have e : (W.map ((fun M => ind (decide (pvF g [] M = some j))) ∘ fun x => M ++ [x])) = W.map fun x => if x = j then ind (g (M ++ [x])) else 0 := by
      refine List.map_congr_left fun x _ => ?_
      show ind (decide (pvF g [] (M ++ [x]) = some j)) = _
      rw [pv_snoc, h]
      dsimp only
      rw [List.nil_append]
      by_cases e : x = j
      · subst e
        rw [if_pos rfl]
        cases g (M ++ [x]) <;> simp [ind]
      · rw [if_neg e]
        cases g (M ++ [x]) <;> simp [ind, e]
    rw [e, sum_one_of hX]
    unfold turnG
    rw [hgM, hg.same (L := j :: M) (M := M ++ [j]) fun x => by rw [List.mem_cons, List.mem_append, List.mem_singleton]; exact Or.comm]
    by_cases hm : j ∈ M
    · rw [if_neg fun q => hmem.mp q hm, ← hg.same (L := M) (M := M ++ [j]) fun x => by rw [List.mem_append, List.mem_singleton]; exact ⟨.inl, fun q => q.elim id fun q => q ▸ hm⟩, hgM]
      simp [ind]
    · rw [if_pos (hmem.mpr hm)]
      simp [ind]
/-- how many orders go first at a button -/
theorem pivs_all {g : List Int → Bool} (hg : Mono g) {X : List Int} (hn : X.Nodup) {j : Int} (hj : j ∈ X) : ∀ m, m ≤ X.length → pivs g X m j * fac (X.length - m) = ((List.range m).map fun i => EE X i (turnG g j) * fac i * fac (X.length - 1 - i)).sum
  | 0, _ => by
    unfold pivs
    rw [arr]
    simp [pvF, ind]
  | m + 1, h => by
    have ih := pivs_all hg hn hj m (by omega)
    have e : X.length - m = (X.length - (m + 1)) + 1 := by omega
    rw [pivs_S hg hn hj m (by omega), List.range_succ, List.map_append, List.sum_append, ← ih, List.map_singleton, List.sum_singleton, Nat.add_mul]
    congr 1
    · rw [e, fac_S, Nat.mul_assoc, Nat.mul_comm (fac _)]
    · rw [show X.length - (m + 1) = X.length - 1 - m from by omega, Nat.mul_comm (fac m)]
theorem pivs_is {g : List Int → Bool} (hg : Mono g) {X : List Int} (hn : X.Nodup) {j : Int} (hj : j ∈ X) : pivs g X X.length j = ((List.range X.length).map fun i => EE X i (turnG g j) * fac i * fac (X.length - 1 - i)).sum := by
  have := pivs_all hg hn hj X.length (Nat.le_refl _)
  rw [Nat.sub_self, fac_0, Nat.mul_one] at this
  exact this
theorem sum_swap {α β : Type} (f : α → β → Nat) (B : List β) : ∀ A : List α, (A.map fun a => (B.map fun b => f a b).sum).sum = (B.map fun b => (A.map fun a => f a b).sum).sum
  | [] => by simp [sum_const]
  | a :: A => by
    rw [List.map_cons, List.sum_cons, sum_swap f B A, ← sum_add']
    congr 1
theorem pv_mem (g : List Int → Bool) {y : Int} : ∀ (M P : List Int), pvF g P M = some y → y ∈ M
  | [], P, h => by rw [pvF] at h; cases h
  | x :: M, P, h => by
    rw [pvF] at h
    split at h
    · cases h
      exact List.mem_cons_self
    · exact List.mem_cons_of_mem _ (pv_mem g M _ h)
/-- all orders go somewhere -/
theorem pivs_sum {g : List Int → Bool} (hg : Mono g) {X : List Int} (hn : X.Nodup) (ht : g X = true) : (X.map fun j => pivs g X X.length j).sum = fac X.length := by
  unfold pivs
  rw [sum_swap, ← arr_len hn]
  have e : ((arr X X.length).map fun M => (X.map fun j => ind (decide (pvF g [] M = some j))).sum) = (arr X X.length).map fun _ => 1 := by
    refine List.map_congr_left fun M hM => ?_
    obtain ⟨m1, m2, m3⟩ := arr_ok hn _ M hM
    have hsame : ∀ x ∈ X, x ∈ M := fun x hx => Decidable.byContradiction fun q => by
      have := rest_len hn m2 m3
      have h0 : (X.filter fun x => !decide (x ∈ M)) = [] := List.length_eq_zero_iff.mp (by omega)
      have : x ∈ X.filter fun x => !decide (x ∈ M) := List.mem_filter.mpr ⟨hx, by simpa using q⟩
      rw [h0] at this
      exact nomatch this
    have hgM := hg.mono X M hsame ht
    cases h : pvF g [] M with
    | none => rw [(pv_none hg M).mp h] at hgM; cases hgM
    | some y =>
      have hy := m3 y (pv_mem g M [] h)
      have e2 : (X.map fun j => ind (decide (some y = some j))) = X.map fun j => if j = y then 1 else 0 := by
        refine List.map_congr_left fun j _ => ?_
        by_cases q : j = y
        · subst q
          simp [ind]
        · have : ¬ y = j := fun z => q z.symm
          simp [ind, q, this]
      rw [e2, sum_one_of hn y fun _ => 1, if_pos hy]
  rw [e, sum_const, Nat.mul_one]
/-! led along a renaming -/
theorem cs_map {a b : Int → Nat} (φ : Int → Int) : ∀ (X : List Int) (f : List Int → Nat), cs a b (X.map φ) f = cs (fun x => a (φ x)) (fun x => b (φ x)) X fun S => f (S.map φ)
  | [], f => rfl
  | x :: X, f => by
    rw [List.map_cons, cs, cs, cs_map φ X f, cs_map φ X fun L => f (φ x :: L)]
    rfl
theorem EE_map (φ : Int → Int) (X : List Int) (i : Nat) (f : List Int → Nat) : EE (X.map φ) i f = EE X i fun S => f (S.map φ) := by
  unfold EE
  rw [cs_map]
  refine cs_congr fun S _ => ?_
  rw [List.length_map]
theorem tz_EE {t : Tr} {R : List Int} {z : Int} (hn : R.Nodup) (hR : R.Perm t.held) (hz : z ∈ R) (j : Nat) : EE R j (trn t z) = tz t z j := by
  rw [← tz_lots hn hR hz j, cs_lots]
  rfl
end Own

namespace Own
open PySem PySem.Spec PyProof.Rows L2
/-! ### what shows a lot: sums by size, their first one that is not nought -/
def PermWise (f : List Int → Nat) : Prop := ∀ L M : List Int, L.Perm M → f L = f M
theorem cs_permP {a b : Int → Nat} {X Y : List Int} (h : X.Perm Y) : ∀ {f : List Int → Nat}, PermWise f → cs a b X f = cs a b Y f := by
  induction h with
  | nil => intro f _; rfl
  | cons x _ ih => intro f hf; rw [cs, cs, ih hf, ih fun L M e => hf _ _ (e.cons x)]
  | swap x y l =>
    intro f hf
    have e : (cs a b l fun L => f (y :: x :: L)) = cs a b l fun L => f (x :: y :: L) := cs_congr fun L _ => hf _ _ (List.Perm.swap x y L)
    simp only [cs, Nat.mul_add]
    rw [e]
    rw [Nat.mul_left_comm (b y) (b x), Nat.mul_left_comm (b y) (a x), Nat.mul_left_comm (a y) (b x), Nat.mul_left_comm (a y) (a x)]
    omega
  | trans _ _ ih1 ih2 => intro f hf; rw [ih1 hf, ih2 hf]
def szc (X : List Int) (f : List Int → Nat) (m : Nat) : Nat := cs oneW oneW X fun B => f B * ind (decide (B.length = m))
structure Low (X : List Int) (f : List Int → Nat) (m c : Nat) : Prop where
  zero : ∀ B, B.Sublist X → B.length < m → f B = 0
  sum : szc X f m = c
theorem Low.congr {X : List Int} {f g : List Int → Nat} {m c : Nat} (h : Low X f m c) (e : ∀ B, B.Sublist X → f B = g B) : Low X g m c :=
  ⟨fun B hB hl => by rw [← e B hB]; exact h.zero B hB hl, by
    rw [← h.sum]
    exact cs_congr fun B hB => by rw [e B hB]⟩
theorem Low.perm {X Y : List Int} {f : List Int → Nat} {m c : Nat} (h : Low X f m c) (p : X.Perm Y) (n : X.Nodup) (hf : PermWise f) : Low Y f m c := by
  refine ⟨fun B hB hl => ?_, ?_⟩
  · have nY := p.nodup_iff.mp n
    have q : (X.filter fun x => decide (x ∈ B)).Perm B := (List.perm_ext_iff_of_nodup (n.filter _) (nY.sublist hB)).mpr fun x => by
      rw [List.mem_filter, decide_eq_true_iff]
      exact ⟨fun z => z.2, fun z => ⟨p.mem_iff.mpr (hB.subset z), z⟩⟩
    rw [← hf _ _ q]
    exact h.zero _ List.filter_sublist (by rw [q.length_eq]; exact hl)
  · rw [← h.sum]
    exact (cs_permP p fun L M e => by
      show f L * _ = f M * _
      rw [hf _ _ e, e.length_eq]).symm
theorem Low.mul {A B : List Int} {f g F : List Int → Nat} {m n c d : Nat} (a : Low A f m c) (b : Low B g n d) (hF : ∀ x y, x.Sublist A → y.Sublist B → F (x ++ y) = f x * g y) : Low (A ++ B) F (m + n) (c * d) := by
  refine ⟨fun L hL hl => ?_, ?_⟩
  · obtain ⟨x, y, rfl, hx, hy⟩ := List.sublist_append_iff.mp hL
    rw [List.length_append] at hl
    rw [hF x y hx hy]
    by_cases h : x.length < m
    · rw [a.zero x hx h, Nat.zero_mul]
    · rw [b.zero y hy (by omega), Nat.mul_zero]
  · unfold szc
    rw [cs_append, ← a.sum, ← b.sum]
    unfold szc
    rw [← cs_split]
    refine cs_congr fun x hx => cs_congr fun y hy => ?_
    rw [hF x y hx hy, List.length_append]
    by_cases h1 : x.length < m
    · rw [a.zero x hx h1]
      simp
    · by_cases h2 : y.length < n
      · rw [b.zero y hy h2]
        simp
      · by_cases h : x.length + y.length = m + n
        · rw [decide_eq_true h, decide_eq_true (show x.length = m by omega), decide_eq_true (show y.length = n by omega)]
          simp [ind]
        · rw [decide_eq_false h]
          by_cases h3 : x.length = m
          · rw [decide_eq_false (show ¬ y.length = n by omega)]
            simp [ind]
          · rw [decide_eq_false h3]
            simp [ind]
theorem szc_add (X : List Int) (f g : List Int → Nat) (m : Nat) : szc X (fun B => f B + g B) m = szc X f m + szc X g m := by
  unfold szc
  rw [← cs_add]
  exact cs_congr fun B _ => Nat.add_mul _ _ _
theorem szc_none {X : List Int} {g : List Int → Nat} {m : Nat} (h : ∀ B, B.Sublist X → B.length = m → g B = 0) : szc X g m = 0 := by
  unfold szc
  rw [cs_congr (g := fun _ => 0) fun B hB => ?_, cs_zero]
  by_cases e : B.length = m
  · rw [h B hB e, Nat.zero_mul]
  · rw [decide_eq_false e]
    simp [ind]
theorem Low.high {X : List Int} {f g : List Int → Nat} {m c : Nat} (a : Low X f m c) (h : ∀ B, B.Sublist X → B.length ≤ m → g B = 0) : Low X (fun B => f B + g B) m c :=
  ⟨fun B hB hl => by rw [a.zero B hB hl, h B hB (by omega)], by rw [szc_add, a.sum, szc_none fun B hB e => h B hB (by omega)]; rfl⟩
theorem Low.add {X : List Int} {f g : List Int → Nat} {m c d : Nat} (a : Low X f m c) (b : Low X g m d) : Low X (fun B => f B + g B) m (c + d) :=
  ⟨fun B hB hl => by rw [a.zero B hB hl, b.zero B hB hl], by rw [szc_add, a.sum, b.sum]⟩
theorem szc_0 : ∀ (X : List Int) (f : List Int → Nat), szc X f 0 = f []
  | [], f => by
    unfold szc
    rw [cs]
    show f [] * 1 = f []
    rw [Nat.mul_one]
  | x :: X, f => by
    have h := szc_0 X f
    unfold szc at h ⊢
    rw [cs, h, cs_congr (f := fun L => f (x :: L) * _) (g := fun _ => 0) fun L _ => by rw [decide_eq_false (by simp)]; simp [ind], cs_zero]
    show 1 * f [] + 1 * 0 = f []
    omega
theorem Low.nought (X : List Int) (f : List Int → Nat) : Low X f 0 (f []) := ⟨fun B _ h => absurd h (by omega), szc_0 X f⟩
/-! what shows what a tree does with a lot -/
def shw (S : Int → Bool) (t : Tr) (B : Int → Bool) : Bool := if gp S t = true then gp (fun i => S i && B i) t else !gp (fun i => S i || !B i) t
mutual
theorem gp_up {S R : Int → Bool} : ∀ t : Tr, (∀ x ∈ t.held, S x = true → R x = true) → gp S t = true → gp R t = true
  | .b i, h, e => by
    rw [gp] at e ⊢
    exact h i (by rw [Tr.held]; exact List.mem_singleton.mpr rfl) e
  | .t k ps, h, e => by
    rw [gp, decide_eq_true_iff] at e ⊢
    rw [Tr.held] at h
    have := cp_up ps h
    omega
theorem cp_up {S R : Int → Bool} : ∀ ps : List Tr, (∀ x ∈ Tr.helds ps, S x = true → R x = true) → cp S ps ≤ cp R ps
  | [], _ => by rw [cp, cp]; exact Nat.le_refl _
  | p :: r, h => by
    rw [Tr.helds] at h
    have h1 := gp_up p fun x hx => h x (List.mem_append_left _ hx)
    have h2 := cp_up r fun x hx => h x (List.mem_append_right _ hx)
    rw [cp, cp]
    by_cases c : gp S p = true
    · rw [if_pos c, if_pos (h1 c)]
      omega
    · rw [if_neg c]
      omega
end
theorem shw_congr {S : Int → Bool} {t : Tr} {B C : Int → Bool} (h : ∀ x ∈ t.held, B x = C x) : shw S t B = shw S t C := by
  unfold shw
  rw [gp_congr (S := fun i => S i && B i) (R := fun i => S i && C i) t fun x hx => by rw [h x hx], gp_congr (S := fun i => S i || !B i) (R := fun i => S i || !C i) t fun x hx => by rw [h x hx]]
theorem shw_none {S : Int → Bool} {t : Tr} (o : t.ok) {B : Int → Bool} (h : ∀ x ∈ t.held, B x = false) : shw S t B = false := by
  unfold shw
  split
  · exact gp_off t o fun x hx => by rw [h x hx]; simp
  · rw [gp_on t o fun x hx => by rw [h x hx]; simp]
    rfl
def fitsP (S : Int → Bool) (d : Bool) (p : Tr) : Bool := gp S p == d
def cntF (S : Int → Bool) (B : Int → Bool) (ps : List Tr) : Nat := (ps.filter fun p => shw S p B).length
def needN (d : Bool) (k : Int) (n : Nat) : Nat := if d = true then k.toNat else n - k.toNat + 1
theorem shw_fit {S : Int → Bool} {B : Int → Bool} (p : Tr) : (if gp S p = true then shw S p B = gp (fun i => S i && B i) p else shw S p B = !gp (fun i => S i || !B i) p) ∧ (gp S p = false → gp (fun i => S i && B i) p = false) ∧ (gp S p = true → gp (fun i => S i || !B i) p = true) := by
  refine ⟨?_, fun h => ?_, fun h => ?_⟩
  · unfold shw
    by_cases h : gp S p = true
    · rw [if_pos h, if_pos h]
    · rw [if_neg h, if_neg h]
  · cases e : gp (fun i => S i && B i) p with
    | false => rfl
    | true =>
      have := gp_up (S := fun i => S i && B i) (R := S) p (fun x _ z => by rw [Bool.and_eq_true] at z; exact z.1) e
      rw [h] at this
      cases this
  · exact gp_up (S := S) p (fun x _ z => by rw [Bool.or_eq_true]; exact .inl z) h
theorem shw_t {S : Int → Bool} {k : Int} {ps : List Tr} {B : Int → Bool} (h1 : 1 ≤ k) (h2 : k ≤ ps.length) :
    shw S (.t k ps) B = decide (needN (gp S (.t k ps)) k ps.length ≤ cntF S B (ps.filter (fitsP S (gp S (.t k ps))))) := by
  unfold shw cntF
  rw [List.filter_filter]
  cases hd : gp S (.t k ps) with
  | true =>
    rw [if_pos rfl, gp, cp_eq]
    have e : (ps.filter fun p => gp (fun i => S i && B i) p) = ps.filter fun a => shw S a B && fitsP S true a := by
      refine List.filter_congr fun p _ => ?_
      obtain ⟨a1, a2, _⟩ := shw_fit (S := S) (B := B) p
      unfold fitsP
      cases hp : gp S p with
      | true =>
        rw [hp, if_pos rfl] at a1
        rw [a1]
        simp
      | false =>
        rw [a2 hp]
        simp
    rw [e]
    unfold needN
    rw [if_pos rfl]
    by_cases c : k ≤ ((ps.filter fun a => shw S a B && fitsP S true a).length : Int)
    · rw [decide_eq_true c, decide_eq_true (by omega)]
    · rw [decide_eq_false c, decide_eq_false (by omega)]
  | false =>
    rw [if_neg Bool.false_ne_true, gp, cp_eq]
    have e : (ps.filter fun a => shw S a B && fitsP S false a) = ps.filter fun p => !gp (fun i => S i || !B i) p := by
      refine List.filter_congr fun p _ => ?_
      obtain ⟨a1, _, a3⟩ := shw_fit (S := S) (B := B) p
      unfold fitsP
      cases hp : gp S p with
      | true =>
        rw [a3 hp]
        simp
      | false =>
        rw [hp, if_neg Bool.false_ne_true] at a1
        rw [a1]
        simp
    rw [e]
    have hl : (ps.filter fun p => gp (fun i => S i || !B i) p).length + (ps.filter fun p => !gp (fun i => S i || !B i) p).length = ps.length := by
      have := List.length_eq_countP_add_countP (fun p => gp (fun i => S i || !B i) p) (l := ps)
      rw [List.countP_eq_length_filter, List.countP_eq_length_filter] at this
      have e2 : (ps.filter fun p => decide ¬ gp (fun i => S i || !B i) p = true) = ps.filter fun p => !gp (fun i => S i || !B i) p := List.filter_congr fun p _ => by cases gp (fun i => S i || !B i) p <;> rfl
      rw [e2] at this
      omega
    generalize (ps.filter fun p => gp (fun i => S i || !B i) p).length = x at hl ⊢
    generalize (ps.filter fun p => !gp (fun i => S i || !B i) p).length = y at hl ⊢
    unfold needN
    rw [if_neg Bool.false_ne_true]
    by_cases c : k ≤ (x : Int)
    · rw [decide_eq_true c, decide_eq_false (by omega)]
      rfl
    · rw [decide_eq_false c, decide_eq_true (by omega)]
      rfl
/-! rows of sizes and counts, ascending -/
def Msum (l : List (Nat × Nat)) (q : Nat) : Nat := ((l.take q).map Prod.fst).sum
def CC : List (Nat × Nat) → Nat → Nat
  | _, 0 => 1
  | [], _ + 1 => 0
  | (s, c) :: r, q + 1 => c * CC r q + (if Msum r (q + 1) = s + Msum r q ∧ q + 1 ≤ r.length then CC r (q + 1) else 0)
theorem Msum_cons (s c : Nat) (r : List (Nat × Nat)) (q : Nat) : Msum ((s, c) :: r) (q + 1) = s + Msum r q := by
  unfold Msum
  rw [List.take_succ_cons, List.map_cons, List.sum_cons]
theorem Msum_snoc {l : List (Nat × Nat)} {q : Nat} {x : Nat × Nat} (h : l[q]? = some x) : Msum l (q + 1) = Msum l q + x.1 := by
  unfold Msum
  rw [take_snoc h, List.map_append, List.sum_append]
  simp
theorem Msum_up {l : List (Nat × Nat)} (h1 : ∀ x ∈ l, 1 ≤ x.1) (q : Nat) : ∀ j, q + j ≤ l.length → Msum l q + j ≤ Msum l (q + j)
  | 0, _ => Nat.le_refl _
  | j + 1, h => by
    have ih := Msum_up h1 q j (by omega)
    have hx : l[q + j]? = some l[q + j] := List.getElem?_eq_getElem (by omega)
    have := Msum_snoc hx
    have := h1 _ (List.mem_of_getElem? hx)
    show Msum l q + (j + 1) ≤ Msum l (q + j + 1)
    omega
def ascS (l : List (Nat × Nat)) : Prop := l.Pairwise fun a b => a.1 ≤ b.1
theorem low_rows {S : Int → Bool} (f : Tr → Nat × Nat) : ∀ (qs : List Tr) (q : Nat), Tr.oks qs → (Tr.helds qs).Nodup → ascS (qs.map f) → (∀ p ∈ qs, Low p.held (fun B => ind (shw S p (inS B))) (f p).1 (f p).2) → q ≤ qs.length →
    Low (Tr.helds qs) (fun B => ind (decide (cntF S (inS B) qs = q))) (Msum (qs.map f) q) (CC (qs.map f) q)
  | [], 0, _, _, _, _, _ => by
    rw [Tr.helds]
    exact Low.nought [] fun B => ind (decide (cntF S (inS B) [] = 0))
  | [], q + 1, _, _, _, _, h => by simp at h
  | p :: r, q, o, n, ha, hl, hq => by
    rw [Tr.oks] at o
    rw [Tr.helds, List.nodup_append] at n
    obtain ⟨n1, n2, n3⟩ := n
    rw [List.map_cons] at ha
    obtain ⟨ha1, ha2⟩ := List.pairwise_cons.mp ha
    have lp := hl p List.mem_cons_self
    have ih := fun q => low_rows (S := S) f r q o.2 n2 ha2 fun p hp => hl p (List.mem_cons_of_mem _ hp)
    have cut : ∀ x y : List Int, x.Sublist p.held → y.Sublist (Tr.helds r) → shw S p (inS (x ++ y)) = shw S p (inS x) ∧ cntF S (inS (x ++ y)) r = cntF S (inS y) r := fun x y hx hy => by
      refine ⟨shw_congr fun z hz => ?_, ?_⟩
      · unfold inS
        have : z ∉ y := fun w => n3 z hz z (hy.subset w) rfl
        simp [this]
      · unfold cntF
        congr 1
        refine List.filter_congr fun u hu => shw_congr fun z hz => ?_
        unfold inS
        have : z ∉ x := fun w => n3 z (hx.subset w) z (in_helds hu hz) rfl
        simp [this]
    have none : Low p.held (fun B => ind (!shw S p (inS B))) 0 1 := by
      have := Low.nought p.held fun B => ind (!shw S p (inS B))
      rw [shw_none (B := inS []) o.1 fun x _ => by unfold inS; simp] at this
      exact this
    have step : ∀ B : List Int, cntF S (inS B) (p :: r) = (if shw S p (inS B) = true then 1 else 0) + cntF S (inS B) r := fun B => by
      unfold cntF
      rw [List.filter_cons]
      split
      · rw [List.length_cons]; omega
      · omega
    rw [Tr.helds]
    cases q with
    | zero =>
      have h0 := (none.mul (ih 0 (Nat.zero_le _)) (F := fun B => ind (!shw S p (inS B)) * ind (decide (cntF S (inS B) r = 0))) fun x y hx hy => by
        rw [(cut x y hx hy).1, (cut x y hx hy).2])
      have e0 : ∀ l : List (Nat × Nat), Msum l 0 = 0 := fun l => by unfold Msum; rw [List.take_zero]; rfl
      have c0 : ∀ l : List (Nat × Nat), CC l 0 = 1 := fun l => by rw [CC]
      rw [e0, c0] at h0 ⊢
      refine h0.congr fun B _ => ?_
      rw [step]
      cases shw S p (inS B) with
      | true =>
        rw [if_pos rfl, decide_eq_false (show ¬ 1 + cntF S (inS B) r = 0 by omega)]
        simp [ind]
      | false =>
        rw [if_neg Bool.false_ne_true, Nat.zero_add]
        simp [ind]
    | succ q =>
      rw [List.length_cons] at hq
      have h1 := (lp.mul (ih q (by omega)) (F := fun B => ind (shw S p (inS B)) * ind (decide (cntF S (inS B) r = q))) fun x y hx hy => by
        rw [(cut x y hx hy).1, (cut x y hx hy).2])
      have ee : ∀ B : List Int, ind (shw S p (inS B)) * ind (decide (cntF S (inS B) r = q)) + ind (!shw S p (inS B)) * ind (decide (cntF S (inS B) r = q + 1)) = ind (decide (cntF S (inS B) (p :: r) = q + 1)) := fun B => by
        rw [step]
        cases shw S p (inS B) with
        | true =>
          rw [if_pos rfl]
          by_cases c : cntF S (inS B) r = q
          · rw [decide_eq_true c, decide_eq_true (show 1 + cntF S (inS B) r = q + 1 by omega)]
            simp [ind]
          · rw [decide_eq_false c, decide_eq_false (show ¬ 1 + cntF S (inS B) r = q + 1 by omega)]
            simp [ind]
        | false =>
          rw [if_neg Bool.false_ne_true, Nat.zero_add]
          simp [ind]
      rw [List.map_cons]
      show Low _ _ (Msum (((f p).1, (f p).2) :: r.map f) (q + 1)) (CC (((f p).1, (f p).2) :: r.map f) (q + 1))
      rw [Msum_cons, CC, List.length_map]
      by_cases hr : q + 1 ≤ r.length
      · have h2 := (none.mul (ih (q + 1) hr) (F := fun B => ind (!shw S p (inS B)) * ind (decide (cntF S (inS B) r = q + 1))) fun x y hx hy => by
          rw [(cut x y hx hy).1, (cut x y hx hy).2])
        rw [Nat.zero_add, Nat.one_mul] at h2
        have hx0 : q < (r.map f).length := by rw [List.length_map]; omega
        have hx : (r.map f)[q]? = some (r.map f)[q] := List.getElem?_eq_getElem hx0
        have hs := Msum_snoc hx
        have hle := ha1 _ (List.mem_of_getElem? hx)
        by_cases c : Msum (r.map f) (q + 1) = (f p).1 + Msum (r.map f) q
        · rw [if_pos ⟨c, hr⟩]
          rw [c] at h2
          exact (h1.add h2).congr fun B _ => ee B
        · rw [if_neg fun z => c z.1, Nat.add_zero]
          refine (h1.high fun B hB hl => h2.zero B hB ?_).congr fun B _ => ee B
          omega
      · rw [if_neg fun z => hr z.2, Nat.add_zero]
        refine (h1.high fun B hB hl => ?_).congr fun B _ => ee B
        have : cntF S (inS B) r ≤ r.length := List.length_filter_le _ _
        rw [decide_eq_false (show ¬ cntF S (inS B) r = q + 1 by omega)]
        simp [ind]
/-! as few buttons as can be, as the code chooses them -/
mutual
def bt (S : Int → Bool) : Tr → List Int
  | .b i => [i]
  | .t k ps => (((bts S (gp S (.t k ps)) ps).mergeSort fun a b => decide (a.length ≤ b.length)).take (needN (gp S (.t k ps)) k ps.length)).flatten
def bts (S : Int → Bool) (d : Bool) : List Tr → List (List Int)
  | [] => []
  | p :: r => if fitsP S d p = true then bt S p :: bts S d r else bts S d r
end
theorem bts_eq (S : Int → Bool) (d : Bool) : ∀ ps : List Tr, bts S d ps = (ps.filter (fitsP S d)).map (bt S)
  | [] => by rw [bts]; rfl
  | p :: r => by
    rw [bts, bts_eq S d r, List.filter_cons]
    split
    · rw [List.map_cons]
    · rfl
def srtB (S : Int → Bool) (ps : List Tr) : List Tr := ps.mergeSort fun a b => decide ((bt S a).length ≤ (bt S b).length)
theorem srtB_perm (S : Int → Bool) (ps : List Tr) : (srtB S ps).Perm ps := List.mergeSort_perm _ _
theorem srtB_map (S : Int → Bool) (ps : List Tr) : (srtB S ps).map (bt S) = (ps.map (bt S)).mergeSort fun a b => decide (a.length ≤ b.length) := List.map_mergeSort fun _ _ _ _ => rfl
theorem srtB_asc (S : Int → Bool) (ps : List Tr) : (srtB S ps).Pairwise fun a b => (bt S a).length ≤ (bt S b).length := by
  have := List.pairwise_mergeSort (le := fun a b : Tr => decide ((bt S a).length ≤ (bt S b).length)) (fun a b c h1 h2 => decide_eq_true (Nat.le_trans (of_decide_eq_true h1) (of_decide_eq_true h2)))
    (fun a b => by
      rcases Nat.le_total (bt S a).length (bt S b).length with z | z
      · simp [z]
      · simp [z]) ps
  exact this.imp fun h => of_decide_eq_true h
def fitL (S : Int → Bool) (k : Int) (ps : List Tr) : List Tr := srtB S (ps.filter (fitsP S (gp S (.t k ps))))
def needT (S : Int → Bool) (k : Int) (ps : List Tr) : Nat := needN (gp S (.t k ps)) k ps.length
theorem bt_t (S : Int → Bool) (k : Int) (ps : List Tr) : bt S (.t k ps) = ((fitL S k ps).take (needT S k ps)).flatMap (bt S) := by
  rw [bt, bts_eq, ← srtB_map, ← List.map_take]
  rfl
def cN (S : Int → Bool) (t : Tr) : Nat := szc t.held (fun B => ind (shw S t (inS B))) (bt S t).length
def rowK (S : Int → Bool) (p : Tr) : Nat × Nat := ((bt S p).length, cN S p)
structure Shown2 (S : Int → Bool) (t : Tr) : Prop where
  low : Low t.held (fun B => ind (shw S t (inS B))) (bt S t).length (cN S t)
  nd : (bt S t).Nodup
  sub : ∀ x ∈ bt S t, x ∈ t.held
  does : shw S t (inS (bt S t)) = true
theorem Shown2.some {S : Int → Bool} {t : Tr} (h : Shown2 S t) (o : t.ok) : 1 ≤ (bt S t).length := by
  cases e : bt S t with
  | nil =>
    have := h.does
    rw [e, shw_none (B := inS []) o fun x _ => by unfold inS; simp] at this
    cases this
  | cons x l => simp
theorem flat_bt {S : Int → Bool} : ∀ qs : List Tr, (Tr.helds qs).Nodup → (∀ p ∈ qs, Shown2 S p) → (qs.flatMap (bt S)).Nodup ∧ (∀ x ∈ qs.flatMap (bt S), x ∈ Tr.helds qs) ∧ ∀ p ∈ qs, ∀ z ∈ p.held, z ∈ qs.flatMap (bt S) ↔ z ∈ bt S p
  | [], _, _ => ⟨List.Pairwise.nil, fun x hx => (nomatch hx), fun p hp => (nomatch hp)⟩
  | q :: r, n, h => by
    rw [Tr.helds, List.nodup_append] at n
    obtain ⟨n1, n2, n3⟩ := n
    have hq := h q List.mem_cons_self
    obtain ⟨i1, i2, i3⟩ := flat_bt r n2 fun p hp => h p (List.mem_cons_of_mem _ hp)
    rw [List.flatMap_cons]
    refine ⟨List.nodup_append.mpr ⟨hq.nd, i1, fun a ha b hb e => n3 a (hq.sub a ha) b (i2 b hb) e⟩, fun x hx => ?_, fun p hp z hz => ?_⟩
    · rw [Tr.helds]
      rcases List.mem_append.mp hx with w | w
      · exact List.mem_append_left _ (hq.sub x w)
      · exact List.mem_append_right _ (i2 x w)
    · rw [List.mem_append]
      rcases List.mem_cons.mp hp with rfl | w
      · exact ⟨fun v => v.elim id fun v => absurd rfl (n3 z hz z (i2 z v)), .inl⟩
      · exact ⟨fun v => v.elim (fun v => absurd rfl (n3 z (hq.sub z v) z (in_helds w hz))) (i3 p w z hz).mp, fun v => .inr ((i3 p w z hz).mpr v)⟩
theorem cntF_perm {S B : Int → Bool} {ps qs : List Tr} (h : ps.Perm qs) : cntF S B ps = cntF S B qs := (h.filter _).length_eq
theorem fit_enough {S : Int → Bool} {k : Int} {ps : List Tr} (h1 : 1 ≤ k) (h2 : k ≤ ps.length) : 1 ≤ needT S k ps ∧ needT S k ps ≤ (fitL S k ps).length := by
  have hs : shw S (.t k ps) (fun _ => true) = true := by
    unfold shw
    rw [gp_congr (S := fun i => S i && true) (R := S) _ fun x _ => Bool.and_true _, gp_congr (S := fun i => S i || !true) (R := S) _ fun x _ => by simp]
    cases gp S (.t k ps) <;> rfl
  rw [shw_t h1 h2, decide_eq_true_iff] at hs
  have hl := (srtB_perm S (ps.filter (fitsP S (gp S (.t k ps))))).length_eq
  have hc : cntF S (fun _ => true) (ps.filter (fitsP S (gp S (.t k ps)))) ≤ (ps.filter (fitsP S (gp S (.t k ps)))).length := List.length_filter_le _ _
  refine ⟨?_, ?_⟩
  · unfold needT needN
    split <;> omega
  · unfold fitL
    rw [hl]
    exact Nat.le_trans hs hc
theorem look_t {S : Int → Bool} {k : Int} {ps : List Tr} (h1 : 1 ≤ k) (h2 : k ≤ ps.length) (o : Tr.oks ps) (n : (Tr.helds ps).Nodup) (h : ∀ p ∈ ps, Shown2 S p) :
    Shown2 S (.t k ps) ∧ cN S (.t k ps) = CC ((fitL S k ps).map (rowK S)) (needT S k ps) := by
  obtain ⟨en1, en2⟩ := fit_enough (S := S) h1 h2
  have hF : (fitL S k ps).Perm (ps.filter (fitsP S (gp S (.t k ps)))) := srtB_perm S _
  have hasc : (fitL S k ps).Pairwise fun a b => (bt S a).length ≤ (bt S b).length := srtB_asc S _
  have hsh : ∀ B, shw S (.t k ps) B = decide (needT S k ps ≤ cntF S B (fitL S k ps)) := fun B => by
    rw [shw_t h1 h2, cntF_perm hF.symm]
    rfl
  have hbt := bt_t S k ps
  have hpm : (fitL S k ps ++ ps.filter fun p => !fitsP S (gp S (.t k ps)) p).Perm ps := (hF.append_right _).trans (List.filter_append_perm _ _)
  generalize fitL S k ps = F at en2 hF hasc hsh hbt hpm ⊢
  generalize needT S k ps = nn at en1 en2 hsh hbt ⊢
  generalize (ps.filter fun p => !fitsP S (gp S (.t k ps)) p) = G at hpm
  have hFp : ∀ p ∈ F, p ∈ ps := fun p hp => (List.mem_filter.mp (hF.mem_iff.mp hp)).1
  have oF : Tr.oks F := oks_all.mpr fun p hp => oks_all.mp o p (hFp p hp)
  have hhp : (Tr.helds F ++ Tr.helds G).Perm (Tr.helds ps) := by
    have := helds_perm' hpm
    rw [helds_eq, List.flatMap_append, ← helds_eq, ← helds_eq] at this
    exact this
  have nFG := hhp.nodup_iff.mpr n
  obtain ⟨nF, nG, nd⟩ := List.nodup_append.mp nFG
  have ascl : ascS (F.map (rowK S)) := by
    unfold ascS
    rw [List.pairwise_map]
    exact hasc
  have rows := fun q => low_rows (S := S) (rowK S) F q oF nF ascl fun p hp => (h p (hFp p hp)).low
  have hs1 : ∀ x ∈ F.map (rowK S), 1 ≤ x.1 := fun x hx => by
    obtain ⟨p, hp, rfl⟩ := List.mem_map.mp hx
    exact (h p (hFp p hp)).some (oks_all.mp oF p hp)
  have hll : (F.map (rowK S)).length = F.length := List.length_map _
  have low1 : Low (Tr.helds F) (fun B => ind (decide (nn ≤ cntF S (inS B) F))) (Msum (F.map (rowK S)) nn) (CC (F.map (rowK S)) nn) := by
    refine ((rows nn en2).high (g := fun B => ind (decide (nn + 1 ≤ cntF S (inS B) F))) fun B hB hl => ?_).congr fun B _ => ?_
    · by_cases c : nn + 1 ≤ cntF S (inS B) F
      · have hq : cntF S (inS B) F ≤ F.length := List.length_filter_le _ _
        have hz := (rows _ hq).zero B hB
        have hu := Msum_up hs1 nn (cntF S (inS B) F - nn) (by rw [hll]; omega)
        rw [show nn + (cntF S (inS B) F - nn) = cntF S (inS B) F from by omega] at hu
        have := hz (by omega)
        rw [decide_eq_true rfl] at this
        cases this
      · rw [decide_eq_false c]
        rfl
    · by_cases c : cntF S (inS B) F = nn
      · rw [decide_eq_true c, decide_eq_false (show ¬ nn + 1 ≤ cntF S (inS B) F by omega), decide_eq_true (show nn ≤ cntF S (inS B) F by omega)]
        rfl
      · rw [decide_eq_false c]
        by_cases c2 : nn ≤ cntF S (inS B) F
        · rw [decide_eq_true c2, decide_eq_true (show nn + 1 ≤ cntF S (inS B) F by omega)]
          rfl
        · rw [decide_eq_false c2, decide_eq_false (show ¬ nn + 1 ≤ cntF S (inS B) F by omega)]
          rfl
  have low2 := low1.mul (Low.nought (Tr.helds G) fun _ => 1) (F := fun B => ind (decide (nn ≤ cntF S (inS B) F))) fun x y hx hy => by
    rw [Nat.mul_one]
    have : cntF S (inS (x ++ y)) F = cntF S (inS x) F := by
      unfold cntF
      congr 1
      refine List.filter_congr fun u hu => shw_congr fun z hz => ?_
      unfold inS
      have : z ∉ y := fun w => nd z (in_helds hu hz) z (hy.subset w) rfl
      simp [this]
    rw [this]
  rw [Nat.add_zero, Nat.mul_one] at low2
  have low3 := low2.perm hhp nFG fun L M e => by
    have : inS L = inS M := by
      funext z
      unfold inS
      simp only [e.mem_iff]
    show ind (decide (nn ≤ cntF S (inS L) F)) = ind (decide (nn ≤ cntF S (inS M) F))
    rw [this]
  have low4 : Low (Tr.held (.t k ps)) (fun B => ind (shw S (.t k ps) (inS B))) (Msum (F.map (rowK S)) nn) (CC (F.map (rowK S)) nn) := by
    rw [Tr.held]
    exact low3.congr fun B _ => by rw [hsh]
  have hlen : (bt S (.t k ps)).length = Msum (F.map (rowK S)) nn := by
    rw [hbt]
    unfold Msum
    rw [← List.map_take, List.map_map, List.length_flatMap]
    rfl
  have hc : cN S (.t k ps) = CC (F.map (rowK S)) nn := by
    unfold cN
    rw [hlen]
    exact low4.sum
  obtain ⟨f1, f2, f3⟩ := flat_bt (S := S) (F.take nn) (by
    rw [helds_take_drop F nn] at nF
    exact (List.nodup_append.mp nF).1) fun p hp => h p (hFp p (List.mem_of_mem_take hp))
  refine ⟨⟨by rw [hlen, hc]; exact low4, by rw [hbt]; exact f1, fun x hx => ?_, ?_⟩, hc⟩
  · rw [hbt] at hx
    have := f2 x hx
    rw [Tr.held, ← hhp.mem_iff, helds_take_drop F nn]
    exact List.mem_append_left _ (List.mem_append_left _ this)
  · rw [hsh, decide_eq_true_iff, hbt]
    have ht : (F.take nn).length = nn := by rw [List.length_take]; omega
    have e1 : ((F.take nn).filter fun p => shw S p (inS ((F.take nn).flatMap (bt S)))) = F.take nn := List.filter_eq_self.mpr fun p hp => by
      rw [shw_congr (C := inS (bt S p)) fun z hz => ?_]
      · exact (h p (hFp p (List.mem_of_mem_take hp))).does
      · unfold inS
        simp only [f3 p hp z hz]
    unfold cntF
    have e2 : (F.filter fun p => shw S p (inS ((F.take nn).flatMap (bt S)))).length = ((F.take nn).filter fun p => shw S p (inS ((F.take nn).flatMap (bt S)))).length + ((F.drop nn).filter fun p => shw S p (inS ((F.take nn).flatMap (bt S)))).length := by
      rw [← List.length_append, ← List.filter_append, List.take_append_drop]
    rw [e2, e1, ht]
    omega
theorem look_b (S : Int → Bool) (i : Int) : Shown2 S (.b i) ∧ cN S (.b i) = 1 := by
  have hb : bt S (.b i) = [i] := by rw [bt]
  have hs : ∀ B : Int → Bool, shw S (.b i) B = B i := fun B => by
    unfold shw
    rw [gp, gp, gp]
    cases S i <;> simp
  have hl : Low (Tr.held (.b i)) (fun B => ind (shw S (.b i) (inS B))) 1 1 := by
    rw [Tr.held]
    refine ⟨fun B _ h => ?_, ?_⟩
    · rw [List.eq_nil_of_length_eq_zero (by omega : B.length = 0), hs]
      rfl
    · unfold szc
      rw [cs, cs, cs]
      dsimp only
      rw [hs, hs]
      show 1 * _ + 1 * _ = 1
      simp [ind, inS]
  have hc : cN S (.b i) = 1 := by
    unfold cN
    rw [hb]
    exact hl.sum
  refine ⟨⟨by rw [hb, hc]; exact hl, by rw [hb]; exact List.pairwise_singleton _ _, fun x hx => by rw [hb] at hx; rw [Tr.held]; exact hx, by rw [hs, hb]; unfold inS; simp⟩, hc⟩
mutual
theorem look (S : Int → Bool) : ∀ t : Tr, t.ok → t.held.Nodup → Shown2 S t
  | .b i, _, _ => (look_b S i).1
  | .t k ps, o, n => by
    rw [Tr.ok] at o
    rw [Tr.held] at n
    exact (look_t o.1 o.2.1 o.2.2 n (looks S ps o.2.2 n)).1
theorem looks (S : Int → Bool) : ∀ ps : List Tr, Tr.oks ps → (Tr.helds ps).Nodup → ∀ p ∈ ps, Shown2 S p
  | [], _, _, p, hp => nomatch hp
  | q :: r, o, n, p, hp => by
    rw [Tr.oks] at o
    rw [Tr.helds, List.nodup_append] at n
    rcases List.mem_cons.mp hp with e | e
    · rw [e]
      exact look S q o.1 n.1
    · exact looks S r o.2 n.2.1 p e
end
/-! the count, as the code multiplies it *--/
def tiesOf (l : List (Nat × Nat)) (m : Nat) : List (Nat × Nat) := l.filter fun x => decide (x.1 = m)
def fewOf (l : List (Nat × Nat)) (m : Nat) : List (Nat × Nat) := l.filter fun x => decide (x.1 < m)
def prodC : List (Nat × Nat) → Nat
  | [] => 1
  | x :: r => x.2 * prodC r
theorem prodC_snoc (x : Nat × Nat) : ∀ l, prodC (l ++ [x]) = prodC l * x.2
  | [] => by
    show x.2 * 1 = 1 * x.2
    omega
  | y :: l => by rw [List.cons_append, prodC, prodC, prodC_snoc x l, Nat.mul_assoc]
def oneR (l : List (Nat × Nat)) : List (Nat × Nat) := l.map fun x => (x.2, 1)
theorem tcR_oneR0 : ∀ l : List (Nat × Nat), tcR (oneR l) 0 = 1
  | [] => rfl
  | x :: l => by
    unfold oneR
    rw [List.map_cons, tcR]
    show tcR (oneR l) 0 * 1 = 1
    rw [tcR_oneR0 l]
theorem few_none {l : List (Nat × Nat)} {m : Nat} (h : ∀ x ∈ l, m ≤ x.1) : fewOf l m = [] := by
  unfold fewOf
  rw [List.filter_eq_nil_iff]
  intro x hx
  have := h x hx
  simp
  omega
theorem ties_few {r : List (Nat × Nat)} {s q : Nat} (a : ascS r) (h : ∀ x, r[q]? = some x → s < x.1) : (tiesOf r s).length ≤ q := by
  unfold tiesOf
  have e : r.filter (fun x => decide (x.1 = s)) = (r.take q).filter (fun x => decide (x.1 = s)) ++ (r.drop q).filter fun x => decide (x.1 = s) := by rw [← List.filter_append, List.take_append_drop]
  have e2 : (r.drop q).filter (fun x => decide (x.1 = s)) = [] := by
    rw [List.filter_eq_nil_iff]
    intro x hx
    obtain ⟨j, hj⟩ := List.getElem?_of_mem hx
    rw [List.getElem?_drop] at hj
    have hql : q < r.length := by
      have := (List.getElem?_eq_some_iff.mp hj).1
      omega
    have h0 := h _ (List.getElem?_eq_getElem hql)
    have : r[q].1 ≤ x.1 := by
      cases j with
      | zero =>
        rw [Nat.add_zero, List.getElem?_eq_getElem hql] at hj
        cases hj
        exact Nat.le_refl _
      | succ j =>
        obtain ⟨hj1, hj2⟩ := List.getElem?_eq_some_iff.mp hj
        have := List.pairwise_iff_getElem.mp a q (q + (j + 1)) hql hj1 (by omega)
        rw [hj2] at this
        exact this
    simp
    omega
  rw [e, e2, List.append_nil]
  refine Nat.le_trans (List.length_filter_le _ _) ?_
  rw [List.length_take]
  omega
theorem CC_form : ∀ (l : List (Nat × Nat)) (q m : Nat), ascS l → 1 ≤ q → (∃ x, l[q - 1]? = some x ∧ x.1 = m) → CC l q = tcR (oneR (tiesOf l m)) (q - (fewOf l m).length) * prodC (fewOf l m) ∧ (fewOf l m).length < q
  | [], q, m, _, _, h => by
    obtain ⟨x, hx, _⟩ := h
    simp at hx
  | (s, c) :: r, 0, m, _, h, _ => absurd h (by omega)
  | (s, c) :: r, q + 1, m, a, _, h => by
    obtain ⟨x, hx, hxm⟩ := h
    obtain ⟨a1, a2⟩ := List.pairwise_cons.mp a
    have ih := fun q m => CC_form r q m a2
    rw [Nat.add_sub_cancel] at hx
    have hsm : s ≤ m := by
      cases q with
      | zero =>
        have : (s, c) = x := by simpa using hx
        rw [← hxm, ← this]
        exact Nat.le_refl _
      | succ q =>
        have hx' : r[q]? = some x := by simpa using hx
        have := a1 x (List.mem_of_getElem? hx')
        rw [← hxm]
        exact this
    by_cases e : s = m
    · subst e
      have hr : ∀ y ∈ r, s ≤ y.1 := fun y hy => a1 y hy
      have hf : fewOf ((s, c) :: r) s = [] := few_none fun y hy => by
        rcases List.mem_cons.mp hy with z | z
        · rw [z]; exact Nat.le_refl _
        · exact hr y z
      have hfr : fewOf r s = [] := few_none hr
      have ht : tiesOf ((s, c) :: r) s = (s, c) :: tiesOf r s := by
        unfold tiesOf
        rw [List.filter_cons, if_pos (by simp)]
      rw [hf, ht, prodC, Nat.mul_one, List.length_nil, Nat.sub_zero, CC]
      refine ⟨?_, by omega⟩
      unfold oneR
      rw [List.map_cons, tcR, Nat.mul_one]
      show _ = tcR (oneR (tiesOf r s)) (q + 1) + tcR (oneR (tiesOf r s)) q * c
      have h1 : CC r q = tcR (oneR (tiesOf r s)) q := by
        cases q with
        | zero => rw [tcR_oneR0, CC]
        | succ q =>
          have hx' : r[q]? = some x := by simpa using hx
          have := (ih (q + 1) s (by omega) ⟨x, hx', hxm⟩).1
          rw [hfr, prodC, Nat.mul_one, List.length_nil, Nat.sub_zero] at this
          exact this
      have h2 : (if Msum r (q + 1) = s + Msum r q ∧ q + 1 ≤ r.length then CC r (q + 1) else 0) = tcR (oneR (tiesOf r s)) (q + 1) := by
        by_cases hq : q + 1 ≤ r.length
        · have hy : r[q]? = some r[q] := List.getElem?_eq_getElem (by omega)
          have hm := Msum_snoc hy
          have hge := hr _ (List.mem_of_getElem? hy)
          by_cases c2 : r[q].1 = s
          · rw [if_pos ⟨by omega, hq⟩]
            have := (ih (q + 1) s (by omega) ⟨_, hy, c2⟩).1
            rw [hfr, prodC, Nat.mul_one, List.length_nil, Nat.sub_zero] at this
            exact this
          · rw [if_neg fun z => c2 (by omega)]
            refine (tcR_high _ _ ?_).symm
            unfold oneR
            rw [List.length_map]
            have := ties_few (s := s) (q := q) a2 fun y h => by
              rw [hy] at h
              cases h
              omega
            omega
        · rw [if_neg fun z => hq z.2]
          refine (tcR_high _ _ ?_).symm
          unfold oneR
          rw [List.length_map]
          have := ties_few (s := s) (q := q) a2 fun y h => by
            have := (List.getElem?_eq_some_iff.mp h).1
            omega
          omega
      rw [h1, h2, Nat.mul_comm]
      omega
    · have hlt : s < m := by omega
      cases q with
      | zero =>
        have : (s, c) = x := by simpa using hx
        rw [← this] at hxm
        exact absurd hxm e
      | succ q =>
        have hx' : r[q]? = some x := by simpa using hx
        obtain ⟨i1, i2⟩ := ih (q + 1) m (by omega) ⟨x, hx', hxm⟩
        have hf : fewOf ((s, c) :: r) m = (s, c) :: fewOf r m := by
          unfold fewOf
          rw [List.filter_cons, if_pos (by simpa using hlt)]
        have ht : tiesOf ((s, c) :: r) m = tiesOf r m := by
          unfold tiesOf
          rw [List.filter_cons, if_neg (by simpa using e)]
        rw [hf, ht, prodC, List.length_cons]
        refine ⟨?_, by omega⟩
        rw [CC, if_neg fun z => ?_, Nat.add_zero, i1, show q + 1 + 1 - ((fewOf r m).length + 1) = q + 1 - (fewOf r m).length from by omega]
        · show c * (_ * _) = _ * (c * _)
          rw [Nat.mul_left_comm]
        · obtain ⟨z1, z2⟩ := z
          have hy : r[q + 1]? = some r[q + 1] := List.getElem?_eq_getElem (by omega)
          have hm := Msum_snoc hy
          have hql : q < r.length := by omega
          have h3 := List.pairwise_iff_getElem.mp a2 q (q + 1) hql (by omega) (by omega)
          have h4 : r[q] = x := by
            rw [List.getElem?_eq_getElem hql] at hx'
            exact Option.some.inj hx'
          rw [h4, hxm] at h3
          omega
end Own

namespace Own
open PySem PySem.Spec PyProof.Rows L2
section
variable {X : Cx}
/-! ### str of a tuple or a list *--/
def rStrD (K : PySem.W.Frag) : List V → Hp → VK → Prop := fun xs H Q =>
  ∃ (a : Addr) (d : PyData), xs = [.ref a] ∧ Dp K H (.ref a) d ∧ d.showable = true ∧ d.hasDict = false ∧ d.depth ≤ 60 ∧ d.shown.length ≤ sizeLine ∧ Q (.str d.shown) H
theorem call_strD (hg : X.A.guards = some []) (hu : X.A.units + 64 < cLine) : CallR X (.type "str") (rStrD X.K) := by
  rintro pins s σ H xs us Q I rv ⟨a, d, rfl, hd, hs, hn, hdp, hz, q⟩
  obtain ⟨u, rfl, ru⟩ := vals1 rv
  obtain ⟨as, rd⟩ := Dp.reads I d (.ref a) u hd ru
  have hu' : u = Value.ref a := ru
  subst hu'
  refine PySem.callType_new (S := fun A R s => ∀ prog w, wpAny (model prog w) A.in1 (Builtin.Str.strOf (.ref a)) (fun r s' => R (Except.ok (Flow.ret r)) s') (fun e s' => R (Except.error e) s') s) PySem.F.called_str (by decide +kernel) (PySem.F.typeCall_str_1 _) (PySem.F.newCall_str_1 _) (fun obj => PySem.F.args_object_init_2 _ _) PySem.F.entry_str_new (PySem.meets_str_new fun prog w A R s h => h prog w) ?_
  intro prog w
  refine strOf_of_reads rd hs (PyData.noDict_hsm hn) ?_ ?_ (fun _ _ e => e) (fun h' w' tk hk => ?_) hz
  · exact hg
  · show X.A.units + 1 + 1 + (d.depth + 1) < cLine
    omega
  · exact ⟨PySem.typeIs_str _ _ _, .str _, H, I.kept (t' := tk) hk, ⟨_, rfl⟩, q⟩
end
end Own

namespace Own
open PySem PySem.Spec PyProof.Rows L2
/-! ### which of two buttons is no worse -/
/-- a lot without both goes with y put to it and fails with x -/
def Worse (t : Tr) (x y : Int) : Prop := ∃ S : Int → Bool, S x = false ∧ S y = false ∧ gp (wi S y) t = true ∧ gp (wi S x) t = false
/-- x is a part of the lowest trip that holds both -/
inductive Nw (x y : Int) : Tr → Prop
  | here {k : Int} {ps : List Tr} : Tr.b x ∈ ps → y ∈ Tr.helds ps → Nw x y (.t k ps)
  | deep {k : Int} {ps : List Tr} {p : Tr} : p ∈ ps → x ∈ p.held → y ∈ p.held → Nw x y p → Nw x y (.t k ps)
theorem Nw.both {x y : Int} {t : Tr} (h : Nw x y t) : x ∈ t.held ∧ y ∈ t.held := by
  cases h with
  | here h1 h2 =>
    rw [Tr.held]
    exact ⟨in_helds h1 (by rw [Tr.held]; exact List.mem_singleton.mpr rfl), h2⟩
  | deep h1 h2 h3 _ =>
    rw [Tr.held]
    exact ⟨in_helds h1 h2, in_helds h1 h3⟩
/-! no trip of one part, no one-of in a one-of, no all-of in an all-of -/
mutual
def redd : Tr → Prop
  | .b _ => True
  | .t k ps => ps.length ≠ 1 ∧ (∀ l us, Tr.t l us ∈ ps → ¬ (k = 1 ∧ l = 1) ∧ ¬ (k = (ps.length : Int) ∧ l = (us.length : Int))) ∧ redds ps
def redds : List Tr → Prop
  | [] => True
  | p :: r => redd p ∧ redds r
end
theorem redds_all : ∀ {ps : List Tr}, redds ps ↔ ∀ p ∈ ps, redd p
  | [] => by simp [redds]
  | p :: r => by simp [redds, redds_all (ps := r)]
mutual
theorem redd_plain : ∀ t : Tr, t.ok → t.plain → redd t
  | .b i, _, _ => by rw [redd]; trivial
  | .t k ps, o, h => by
    rw [Tr.ok] at o
    rw [Tr.plain] at h
    rw [redd]
    refine ⟨h.1, fun l us hm => ?_, redds_plain ps o.2.2 h.2.2.2⟩
    have hus := plains_all.mp h.2.2.2 _ hm
    have hou := oks_all.mp o.2.2 _ hm
    rw [Tr.plain] at hus
    rw [Tr.ok] at hou
    constructor
    · rintro ⟨rfl, rfl⟩
      have hw : wordOf 1 (ps.length : Int) = .one := by unfold wordOf; rw [if_pos rfl]
      refine h.2.1 (by rw [hw]; intro z; cases z) _ hm ?_
      show wordOf 1 (us.length : Int) = wordOf 1 (ps.length : Int)
      rw [hw]
      unfold wordOf
      rw [if_pos rfl]
    · rintro ⟨rfl, rfl⟩
      have hl1 : ((ps.length : Int)) ≠ 1 := fun z => h.1 (by omega)
      have hl2 : ((us.length : Int)) ≠ 1 := fun z => hus.1 (by omega)
      have hw : wordOf (ps.length : Int) (ps.length : Int) = .all := by unfold wordOf; rw [if_neg hl1, if_pos rfl]
      refine h.2.1 (by rw [hw]; intro z; cases z) _ hm ?_
      show wordOf (us.length : Int) (us.length : Int) = wordOf (ps.length : Int) (ps.length : Int)
      rw [hw]
      unfold wordOf
      rw [if_neg hl2, if_pos rfl]
theorem redds_plain : ∀ ps : List Tr, Tr.oks ps → Tr.plains ps → redds ps
  | [], _, _ => by rw [redds]; trivial
  | p :: r, o, h => by
    rw [Tr.oks] at o
    rw [Tr.plains] at h
    rw [redds]
    exact ⟨redd_plain p o.1 h.1, redds_plain r o.2 h.2⟩
end
theorem Fine.redd {t : Tr} (h : Fine t) : redd t := redd_plain t h.ok h.plain
theorem cp_wi_out {R : List Tr} {S : Int → Bool} {x : Int} (h : x ∉ Tr.helds R) : cp (wi S x) R = cp S R := cp_congr R fun i hi => wi_ne fun e => h (e ▸ hi)
theorem cpc (S : Int → Bool) (p : Tr) (R : List Tr) : cp S (p :: R) = (if gp S p = true then 1 else 0) + cp S R := by rw [cp]
theorem Nw.not {x y : Int} (ne : x ≠ y) : ∀ {t : Tr}, Nw x y t → t.ok → t.held.Nodup → ¬ Worse t x y := by
  intro t h
  induction h with
  | @here k ps h1 h2 =>
    rintro o n ⟨S, s1, s2, g1, g2⟩
    rw [Tr.ok] at o
    rw [Tr.held] at n
    obtain ⟨R, hR⟩ := one_of h1
    obtain ⟨n1, n2, n3⟩ := apart hR n
    have hyR : y ∈ Tr.helds R := by
      have h3 := (helds_perm hR).mem_iff.mp h2
      rw [Tr.helds, Tr.held] at h3
      rcases List.mem_append.mp h3 with z | z
      · exact absurd (List.mem_singleton.mp z).symm ne
      · exact z
    have hxR : x ∉ Tr.helds R := n3 x (by rw [Tr.held]; exact List.mem_singleton.mpr rfl)
    obtain ⟨q, hq, hyq⟩ := part_of hyR
    obtain ⟨R2, hR2⟩ := one_of hq
    obtain ⟨_, _, n5⟩ := apart hR2 n2
    rw [gp, cp_perm _ hR, cpc, cp_perm _ hR2, cpc, cp_wi_out (n5 y hyq)] at g1
    rw [gp, cp_perm _ hR, cpc, cp_wi_out hxR, cp_perm _ hR2, cpc] at g2
    have e1 : gp (wi S y) (.b x) = false := by rw [gp, wi_ne ne]; exact s1
    have e2 : gp (wi S x) (.b x) = true := by rw [gp]; exact wi_same _ _
    rw [e1] at g1
    rw [e2] at g2
    have g1 := of_decide_eq_true g1
    have g2 := of_decide_eq_false g2
    cases h9 : gp (wi S y) q <;> cases h8 : gp S q <;> rw [h9] at g1 <;> rw [h8] at g2 <;> simp at g1 g2 <;> omega
  | @deep k ps p h1 h2 h3 _ ih =>
    rintro o n ⟨S, s1, s2, g1, g2⟩
    rw [Tr.ok] at o
    rw [Tr.held] at n
    obtain ⟨R, hR⟩ := one_of h1
    obtain ⟨n1, n2, n3⟩ := apart hR n
    rw [gp, cp_perm _ hR, cpc, cp_wi_out (n3 y h3)] at g1
    rw [gp, cp_perm _ hR, cpc, cp_wi_out (n3 x h2)] at g2
    have g1 := of_decide_eq_true g1
    have g2 := of_decide_eq_false g2
    cases h9 : gp (wi S y) p <;> cases h8 : gp (wi S x) p <;> rw [h9] at g1 <;> rw [h8] at g2 <;> simp at g1 g2
    · omega
    · omega
    · exact ih (oks_all.mp o.2.2 p h1) n1 ⟨S, s1, s2, h9, h8⟩
    · omega
theorem wi_off {t : Tr} {S : Int → Bool} {x : Int} (h1 : gp S t = false) (h2 : gp (wi S x) t = true) : S x = false := by
  cases h : S x with
  | false => rfl
  | true =>
    have : wi S x = S := by
      funext i
      unfold wi
      by_cases e : i = x
      · rw [e, h]
        simp
      · simp [e]
    rw [this, h1] at h2
    cases h2
theorem Nw.no : ∀ (n : Nat) {x y : Int} {t : Tr}, t.deep < n → x ≠ y → redd t → t.ok → t.held.Nodup → x ∈ t.held → y ∈ t.held → ¬ Nw x y t → Worse t x y
  | 0, _, _, _, h, _, _, _, _, _, _, _ => absurd h (Nat.not_lt_zero _)
  | n + 1, x, y, .b i, _, ne, _, _, _, hx, hy, _ => by
    rw [Tr.held, List.mem_singleton] at hx hy
    exact absurd (hx.trans hy.symm) ne
  | n + 1, x, y, .t k ps, hd, ne, rd, o, nd, hx, hy, no => by
    rw [Tr.ok] at o
    rw [Tr.held] at nd hx hy
    rw [redd] at rd
    obtain ⟨p, hp, hxp⟩ := part_of hx
    obtain ⟨q, hq, hyq⟩ := part_of hy
    by_cases e : p = q
    · subst e
      obtain ⟨R, hR⟩ := one_of hp
      obtain ⟨n1, n2, n3⟩ := apart hR nd
      have hdp : p.deep < n := by
        have := (deeps_le (n := Tr.deeps ps)).mp (Nat.le_refl _) p hp
        rw [Tr.deep] at hd
        omega
      obtain ⟨S, s1, s2, g1, g2⟩ := Nw.no n hdp ne (redds_all.mp rd.2.2 p hp) (oks_all.mp o.2.2 p hp) n1 hxp hyq fun h => no (.deep hp hxp hyq h)
      refine ⟨mix p S (firstOn R (k - 1).toNat), by rw [mix_in hxp]; exact s1, by rw [mix_in hyq]; exact s2, ?_, ?_⟩
      · rw [wi_mix hyq, gp_part hR o.2.2 nd o.1 o.2.1]; exact g1
      · rw [wi_mix hxp, gp_part hR o.2.2 nd o.1 o.2.1]; exact g2
    · obtain ⟨R, hR⟩ := two_of hp hq e
      have o' := oks_perm hR o.2.2
      have n' := (helds_perm hR).nodup_iff.mp nd
      have hlen := hR.length_eq
      rw [List.length_cons, List.length_cons] at hlen
      have np : p.held.Nodup ∧ q.held.Nodup ∧ y ∉ p.held ∧ x ∉ q.held := by
        rw [Tr.helds, Tr.helds, List.nodup_append, List.nodup_append] at n'
        exact ⟨n'.1, n'.2.1.1, fun z => n'.2.2 y z y (List.mem_append_left _ hyq) rfl, fun z => n'.2.2 x hxp x (List.mem_append_left _ z) rfl⟩
      obtain ⟨S2, b1, b2⟩ := ess q (oks_all.mp o.2.2 q hq) np.2.1 y hyq
      have sy := wi_off b1 b2
      have cross : ∀ (S1 : Int → Bool) (m : Nat), m ≤ R.length → S1 x = false → k ≤ (((if gp S1 p = true then 1 else 0) + (1 + m) : Nat) : Int) → ¬ k ≤ (((if gp (wi S1 x) p = true then 1 else 0) + m : Nat) : Int) → Worse (.t k ps) x y := fun S1 m hm hx1 h1 h2 => by
        refine ⟨mix p S1 (mix q S2 (firstOn R m)), by rw [mix_in hxp]; exact hx1, by rw [mix_out np.2.2.1, mix_in hyq]; exact sy, ?_, ?_⟩
        · rw [wi_mix_out np.2.2.1, wi_mix hyq, gp, cp_perm _ hR, cp_two o' n' hm, b2, if_pos rfl]
          exact decide_eq_true h1
        · rw [wi_mix hxp, gp, cp_perm _ hR, cp_two o' n' hm, b1, if_neg Bool.false_ne_true, Nat.zero_add]
          exact decide_eq_false h2
      cases p with
      | b i =>
        rw [Tr.held, List.mem_singleton] at hxp
        rw [← hxp] at hp
        exact absurd (.here hp hy) no
      | t l us =>
        have hru := redds_all.mp rd.2.2 _ hp
        have hou := oks_all.mp o.2.2 _ hp
        have hnu := np.1
        rw [redd] at hru
        rw [Tr.ok] at hou
        rw [Tr.held] at hnu hxp
        have hc := rd.2.1 l us hp
        obtain ⟨r, hr, hxr⟩ := part_of hxp
        obtain ⟨R2, hR2⟩ := one_of hr
        obtain ⟨m1, m2, m3⟩ := apart hR2 hnu
        have ou := oks_perm hR2 hou.2.2
        rw [Tr.oks] at ou
        have hl2 := hR2.length_eq
        rw [List.length_cons] at hl2
        by_cases c : l < (us.length : Int) ∧ 2 ≤ k
        · have hon : gp (fun i => decide (i ≠ x)) (.t l us) = true := by
            rw [gp, cp_perm _ hR2, cpc, cp_on (S := fun i => decide (i ≠ x)) R2 ou.2 fun z hz => decide_eq_true fun e : z = x => m3 x hxr (e ▸ hz)]
            exact decide_eq_true (by split <;> omega)
          refine cross (fun i => decide (i ≠ x)) (k - 2).toNat (by omega) (by simp) ?_ ?_
          · rw [hon, if_pos rfl]
            omega
          · split <;> omega
        · have hl : 2 ≤ l ∧ k ≠ (ps.length : Int) := by
            by_cases ck : 2 ≤ k
            · have : l = (us.length : Int) := by omega
              exact ⟨by omega, fun z => hc.2 ⟨z, this⟩⟩
            · have hk1 : k = 1 := by omega
              exact ⟨by have := hc.1; omega, by omega⟩
          have hoff : gp (wi (fun _ => false) x) (.t l us) = false := by
            rw [gp, cp_perm _ hR2, cpc, cp_wi_out (m3 x hxr), cp_off R2 ou.2 fun _ _ => rfl]
            exact decide_eq_false (by split <;> omega)
          refine cross (fun _ => false) (k - 1).toNat (by omega) rfl ?_ ?_
          · split <;> omega
          · rw [hoff, if_neg Bool.false_ne_true]
            omega
/-! the ways tell it -/
theorem index_one : ∀ {F : List Tr}, (Tr.helds F).Nodup → ∀ {i j : Nat} {a b : Tr} {x : Int}, F[i]? = some a → F[j]? = some b → x ∈ a.held → x ∈ b.held → i = j
  | [], _, _, _, _, _, _, h, _, _, _ => by simp at h
  | p :: r, hn, 0, 0, _, _, _, _, _, _, _ => rfl
  | p :: r, hn, 0, j + 1, a, b, x, h1, h2, xa, xb => by
    rw [Tr.helds, List.nodup_append] at hn
    simp at h1 h2
    subst h1
    exact absurd rfl (hn.2.2 x xa x (in_helds (List.mem_of_getElem? h2) xb))
  | p :: r, hn, i + 1, 0, a, b, x, h1, h2, xa, xb => by
    rw [Tr.helds, List.nodup_append] at hn
    simp at h1 h2
    subst h2
    exact absurd rfl (hn.2.2 x xb x (in_helds (List.mem_of_getElem? h1) xa))
  | p :: r, hn, i + 1, j + 1, a, b, x, h1, h2, xa, xb => by
    rw [Tr.helds, List.nodup_append] at hn
    simp at h1 h2
    rw [index_one hn.2.1 h1 h2 xa xb]
theorem toward_in {x : Int} : ∀ {w : List Int} {t : Tr}, toward t w = some (.b x) → x ∈ t.held
  | [], t, h => by
    rw [toward_nil] at h
    cases h
    rw [Tr.held]
    exact List.mem_singleton.mpr rfl
  | i :: w, .b _, h => by
    rw [toward] at h
    cases h
  | i :: w, .t k ps, h => by
    obtain ⟨_, p, hp, hr⟩ := toward_cons h
    rw [Tr.held]
    exact in_helds (List.mem_of_getElem? hp) (toward_in hr)
theorem way_nw {x y : Int} (ne : x ≠ y) : ∀ {w v : List Int} {t : Tr}, t.held.Nodup → toward t w = some (.b x) → toward t v = some (.b y) → (v.take (w.length - 1) = w.take (w.length - 1) ↔ Nw x y t)
  | [], v, t, _, h1, h2 => by
    rw [toward_nil] at h1
    cases h1
    have := toward_in h2
    rw [Tr.held, List.mem_singleton] at this
    exact absurd this.symm ne
  | i :: w, v, .b z, _, h1, _ => by
    rw [toward] at h1
    cases h1
  | i :: w, [], .t k ps, _, _, h2 => by
    rw [toward_nil] at h2
    cases h2
  | i :: w, j :: v, .t k ps, n, h1, h2 => by
    obtain ⟨i0, p, hp, hr⟩ := toward_cons h1
    obtain ⟨j0, q, hq, hs⟩ := toward_cons h2
    rw [Tr.held] at n
    have hpm := List.mem_of_getElem? hp
    have hqm := List.mem_of_getElem? hq
    have hx := toward_in hr
    have hy := toward_in hs
    have npp : p.held.Nodup := by
      obtain ⟨R, hR⟩ := one_of hpm
      exact (apart hR n).1
    cases w with
    | nil =>
      rw [toward_nil] at hr
      cases hr
      exact ⟨fun _ => .here hpm (in_helds hqm hy), fun _ => rfl⟩
    | cons i2 w =>
      have hnb : p ≠ .b x := fun z => by
        rw [z, toward] at hr
        cases hr
      have key : Nw x y (.t k ps) → y ∈ p.held ∧ Nw x y p := fun h => by
        cases h with
        | here a _ => exact absurd (one_of_helds n hpm a hx (by rw [Tr.held]; exact List.mem_singleton.mpr rfl)) hnb
        | deep a b c d =>
          have := one_of_helds n hpm a hx b
          subst this
          exact ⟨c, d⟩
      show (j :: v).take (w.length + 1) = (i :: i2 :: w).take (w.length + 1) ↔ _
      rw [List.take_succ_cons, List.take_succ_cons, List.cons.injEq]
      by_cases c : j = i
      · subst c
        rw [hp] at hq
        cases hq
        have ih := way_nw ne npp hr hs
        have e : (i2 :: w).length - 1 = w.length := rfl
        rw [e] at ih
        exact ⟨fun h => .deep hpm hx hy (ih.mp h.2), fun h => ⟨rfl, ih.mpr (key h).2⟩⟩
      · refine ⟨fun h => absurd h.1 c, fun h => absurd ?_ c⟩
        have := index_one n hp hq (key h).1 hy
        omega
theorem way_one {x : Int} : ∀ {w v : List Int} {t : Tr}, t.held.Nodup → toward t w = some (.b x) → toward t v = some (.b x) → w = v
  | [], [], _, _, _, _ => rfl
  | [], j :: v, t, _, h1, h2 => by
    rw [toward_nil] at h1
    cases h1
    rw [toward] at h2
    cases h2
  | i :: w, [], t, _, h1, h2 => by
    rw [toward_nil] at h2
    cases h2
    rw [toward] at h1
    cases h1
  | i :: w, j :: v, .b _, _, h1, _ => by
    rw [toward] at h1
    cases h1
  | i :: w, j :: v, .t k ps, n, h1, h2 => by
    obtain ⟨i0, p, hp, hr⟩ := toward_cons h1
    obtain ⟨j0, q, hq, hs⟩ := toward_cons h2
    rw [Tr.held] at n
    have e := index_one n hp hq (toward_in hr) (toward_in hs)
    have e2 : i = j := by omega
    subst e2
    rw [hp] at hq
    cases hq
    obtain ⟨R, hR⟩ := one_of (List.mem_of_getElem? hp)
    rw [way_one (apart hR n).1 hr hs]
end Own

namespace Own
open PySem PySem.Spec PyProof.Rows L2
/-! ### the law's own reduced trees: told, but for the order of the parts -/
def ljoin (k : Int) (inner : List Tr) : Tr :=
  .t (if wordOf k inner.length = .all then ((inner.flatMap (gives (wordOf k inner.length))).length : Int) else k) (inner.flatMap (gives (wordOf k inner.length)))
def lfold (k : Int) : List Tr → Tr
  | [p] => p
  | ps => ljoin k ps
theorem lfold_ne {k : Int} {ps : List Tr} (h : ps.length ≠ 1) : lfold k ps = ljoin k ps := by
  match ps, h with
  | [], _ => rfl
  | [_], h => exact absurd rfl h
  | _ :: _ :: _, _ => rfl
mutual
def lred : Tr → Tr
  | .b i => .b i
  | .t k ps => lfold k (lreds ps)
def lreds : List Tr → List Tr
  | [] => []
  | p :: r => lred p :: lreds r
end
theorem lreds_eq : ∀ ps : List Tr, lreds ps = ps.map lred
  | [] => by rw [lreds]; rfl
  | p :: r => by rw [lreds, lreds_eq r]; rfl
theorem lreds_len (ps : List Tr) : (lreds ps).length = ps.length := by rw [lreds_eq, List.length_map]
theorem ljoin_go {k : Int} {inner : List Tr} (L : List Int) (h1 : 1 ≤ k) (h2 : k ≤ inner.length) : (ljoin k inner).go L = decide (k ≤ (Tr.cnt L inner : Int)) := by
  rw [← go_joined L h1 h2]
  unfold ljoin joined
  rw [Tr.go, Tr.go, cnt_perm (sort_perm _)]
theorem ljoin_ok {k : Int} {inner : List Tr} (h1 : 1 ≤ k) (h2 : k ≤ inner.length) (ho : ∀ p ∈ inner, p.ok) : (ljoin k inner).ok := by
  have hf := flat_len (w := wordOf k inner.length) ho
  unfold ljoin
  rw [Tr.ok]
  refine ⟨?_, ?_, oks_all.mpr fun p hq => ?_⟩
  · split <;> omega
  · split
    · exact Int.le_refl _
    · omega
  · obtain ⟨q, hq1, hq2⟩ := List.mem_flatMap.mp hq
    exact (gives_ok _ (ho q hq1)).1 p hq2
theorem gives_redd (w : Wd) {t : Tr} (h : redd t) : ∀ p ∈ gives w t, redd p := by
  cases t with
  | b i => exact fun p hp => by rw [List.mem_singleton.mp hp]; exact h
  | t k ps =>
    rw [gives_t]
    split
    · rw [redd] at h
      exact fun p hp => redds_all.mp h.2.2 p hp
    · exact fun p hp => by rw [List.mem_singleton.mp hp]; exact h
theorem word_is_one {k n : Int} (h : wordOf k n = .one) : k = 1 := by
  unfold wordOf at h
  by_cases c : k = 1
  · exact c
  · rw [if_neg c] at h
    split at h <;> cases h
theorem word_is_all {k n : Int} (h : wordOf k n = .all) : k ≠ 1 ∧ k = n := by
  unfold wordOf at h
  by_cases c : k = 1
  · rw [if_pos c] at h
    cases h
  · rw [if_neg c] at h
    by_cases d : k = n
    · exact ⟨c, d⟩
    · rw [if_neg d] at h
      cases h
theorem word_is_some {k n : Int} (h : wordOf k n = .some) : k ≠ 1 ∧ k ≠ n := by
  unfold wordOf at h
  by_cases c : k = 1
  · rw [if_pos c] at h
    cases h
  · rw [if_neg c] at h
    by_cases d : k = n
    · rw [if_pos d] at h
      cases h
    · exact ⟨c, d⟩
theorem ljoin_redd {k : Int} {inner : List Tr} (h1 : 1 ≤ k) (h2 : k ≤ inner.length) (hne : inner.length ≠ 1) (ho : ∀ p ∈ inner, p.ok) (hr : ∀ p ∈ inner, redd p) : redd (ljoin k inner) := by
  have hf := flat_len (w := wordOf k inner.length) ho
  unfold ljoin
  rw [redd]
  refine ⟨by omega, fun l us hm => ?_, redds_all.mpr fun p hq => ?_⟩
  · obtain ⟨q, hq1, hq2⟩ := List.mem_flatMap.mp hm
    have hrq := hr q hq1
    cases hw : wordOf k (inner.length : Int) with
    | one =>
      have hk := word_is_one hw
      rw [hw] at hq2 hf
      rw [if_neg (by intro z; cases z)]
      refine ⟨fun z => ?_, fun z => by omega⟩
      cases q with
      | b i => cases List.mem_singleton.mp hq2
      | t m vs =>
        rw [gives_t] at hq2
        rw [redd] at hrq
        split at hq2
        · rename_i c
          exact (hrq.2.1 l us hq2).1 ⟨word_is_one c.2, z.2⟩
        · rename_i c
          cases List.mem_singleton.mp hq2
          refine c ⟨(by intro z; cases z), ?_⟩
          unfold wordOf
          rw [if_pos z.2]
    | all =>
      have hk := word_is_all hw
      rw [hw] at hq2 hf
      rw [if_pos rfl]
      refine ⟨fun z => by have := z.1; omega, fun z => ?_⟩
      cases q with
      | b i => cases List.mem_singleton.mp hq2
      | t m vs =>
        rw [gives_t] at hq2
        rw [redd] at hrq
        split at hq2
        · rename_i c
          exact (hrq.2.1 l us hq2).2 ⟨(word_is_all c.2).2, z.2⟩
        · rename_i c
          cases List.mem_singleton.mp hq2
          refine c ⟨(by intro z; cases z), ?_⟩
          unfold wordOf
          rw [if_neg (by have := hrq.1; have := z.2; omega), if_pos z.2]
    | some =>
      have hk := word_is_some hw
      rw [if_neg (by intro z; cases z), gives_some]
      exact ⟨fun z => hk.1 z.1, fun z => hk.2 z.1⟩
  · obtain ⟨q, hq1, hq2⟩ := List.mem_flatMap.mp hq
    exact gives_redd _ (hr q hq1) p hq2
structure LRed (u t : Tr) : Prop where
  ok : u.ok
  held : u.held = t.held
  deep : u.deep ≤ t.deep
  red : redd u
  go : ∀ L, u.go L = t.go L
mutual
theorem lred_is : ∀ t : Tr, t.ok → LRed (lred t) t
  | .b i, h => by
    rw [lred]
    exact ⟨h, rfl, Nat.le_refl _, by rw [redd]; trivial, fun _ => rfl⟩
  | .t k ps, h => by
    rw [Tr.ok] at h
    obtain ⟨a1, a2, a3, a4, a5⟩ := lreds_is ps h.2.2
    have hl := lreds_len ps
    rw [lred]
    by_cases one : (lreds ps).length = 1
    · match hq : lreds ps, one with
      | [p], _ =>
        rw [hq] at a1 a2 a3 a4 a5 hl
        have hk : k = 1 := by
          have := h.2.1
          rw [← hl] at this
          simp at this
          omega
        rw [lfold]
        refine ⟨a1 p List.mem_cons_self, ?_, ?_, a4 p List.mem_cons_self, fun L => ?_⟩
        · rw [Tr.held, ← a2, Tr.helds, Tr.helds, List.append_nil]
        · rw [Tr.deep]
          exact Nat.le_succ_of_le (a3 p List.mem_cons_self)
        · rw [Tr.go, ← a5, Tr.cnt, Tr.cnt, hk]
          cases p.go L <;> simp
    · rw [lfold_ne one]
      refine ⟨ljoin_ok h.1 (by rw [hl]; exact h.2.1) a1, ?_, ?_, ljoin_redd h.1 (by rw [hl]; exact h.2.1) one a1 a4, fun L => ?_⟩
      · unfold ljoin
        rw [Tr.held, Tr.held, helds_gives, a2]
      · unfold ljoin
        rw [Tr.deep, Tr.deep]
        refine Nat.succ_le_succ (deeps_le.mpr fun p hq => ?_)
        obtain ⟨q, hq1, hq2⟩ := List.mem_flatMap.mp hq
        exact gives_deep (a3 q hq1) p hq2
      · rw [ljoin_go L h.1 (by rw [hl]; exact h.2.1), a5, Tr.go]
theorem lreds_is : ∀ ps : List Tr, Tr.oks ps → (∀ p ∈ lreds ps, p.ok) ∧ Tr.helds (lreds ps) = Tr.helds ps ∧ (∀ p ∈ lreds ps, p.deep ≤ Tr.deeps ps) ∧ (∀ p ∈ lreds ps, redd p) ∧ ∀ L, Tr.cnt L (lreds ps) = Tr.cnt L ps
  | [], _ => by
    rw [lreds]
    exact ⟨fun p hp => (nomatch hp), rfl, fun p hp => (nomatch hp), fun p hp => (nomatch hp), fun _ => rfl⟩
  | p :: r, h => by
    rw [Tr.oks] at h
    have hp := lred_is p h.1
    obtain ⟨a1, a2, a3, a4, a5⟩ := lreds_is r h.2
    rw [lreds]
    refine ⟨fun q hq => ?_, by rw [Tr.helds, Tr.helds, hp.held, a2], fun q hq => ?_, fun q hq => ?_, fun L => by rw [Tr.cnt, Tr.cnt, hp.go, a5]⟩
    · rcases List.mem_cons.mp hq with e | e
      · rw [e]; exact hp.ok
      · exact a1 q e
    · rw [Tr.deeps]
      rcases List.mem_cons.mp hq with e | e
      · rw [e]; exact Nat.le_trans hp.deep (Nat.le_max_left _ _)
      · exact Nat.le_trans (a3 q e) (Nat.le_max_right _ _)
    · rcases List.mem_cons.mp hq with e | e
      · rw [e]; exact hp.red
      · exact a4 q e
end
/-- trees that go alike tell the same of two buttons -/
theorem gp_of_go {s t : Tr} (hh : ∀ x, x ∈ s.held ↔ x ∈ t.held) (h : ∀ L, s.go L = t.go L) (S : Int → Bool) : gp S s = gp S t := by
  have h2 := h (t.held.filter fun x => S x)
  rw [go_gp, go_gp] at h2
  have e : ∀ x ∈ t.held, (fun i => decide (i ∈ t.held.filter fun x => S x)) x = S x := fun x hx => by
    by_cases hs : S x = true
    · rw [hs]
      exact decide_eq_true (List.mem_filter.mpr ⟨hx, hs⟩)
    · have hs' : S x = false := by simpa using hs
      rw [hs']
      exact decide_eq_false fun q => hs (List.mem_filter.mp q).2
  rw [gp_congr s fun x hx => e x ((hh x).mp hx), gp_congr t e] at h2
  exact h2
theorem Worse.of {s t : Tr} (h : ∀ S, gp S s = gp S t) {x y : Int} : Worse s x y ↔ Worse t x y := by
  unfold Worse
  simp only [h]
/-- two reduced trees that go alike: the same buttons stand no worse -/
theorem nw_same {s t : Tr} {x y : Int} (ne : x ≠ y) (os : s.ok) (ns : s.held.Nodup) (rs : redd s) (ot : t.ok) (nt : t.held.Nodup) (rt : redd t) (hh : ∀ z, z ∈ s.held ↔ z ∈ t.held) (h : ∀ L, s.go L = t.go L) (hx : x ∈ t.held) (hy : y ∈ t.held) : Nw x y s ↔ Nw x y t := by
  have hg := gp_of_go hh h
  constructor
  · intro q
    refine Classical.byContradiction fun c => ?_
    exact q.not ne os ns ((Worse.of hg).mpr (Nw.no _ (Nat.lt_succ_self _) ne rt ot nt hx hy c))
  · intro q
    refine Classical.byContradiction fun c => ?_
    exact q.not ne ot nt ((Worse.of hg).mp (Nw.no _ (Nat.lt_succ_self _) ne rs os ns ((hh x).mpr hx) ((hh y).mpr hy) c))
end Own

namespace PySem
open PySem
namespace SeqAt
theorem int_eq_declines_dict_int (b : Int) (u : Tok) (l : Addr) (c : Value) (es : Array DictEntry) (n : Nat) (dd : Option Addr) (sl : Array (Option Value)) :
    Meets (Builtin.«int.__eq__» ⟨[.int b u, .ref l], []⟩) (fun _ R s => s.heap.get? l = some { cls := c, dict := dd, data := .dict es n, slots := sl } ∧ R (.ok (.ret .notImplemented)) s) :=
  .of_wp fun prog w A R s h => by obtain ⟨hp, g, d, tk, os⟩ := s; obtain ⟨hl, h⟩ := h; wp_walk using wpAny_loadPart' hl, wpAny_load hl; exact ⟨_, rfl, h⟩
theorem dict_eq_declines_int (l : Addr) (es : Array DictEntry) (n : Nat) (dd : Option Addr) (sl : Array (Option Value)) (b : Int) (u : Tok) :
    Meets (Builtin.«dict.__eq__» ⟨[.ref l, .int b u], []⟩) (fun _ R s => s.heap.get? l = some { cls := .type "dict", dict := dd, data := .dict es n, slots := sl } ∧ R (.ok (.ret .notImplemented)) s) :=
  .of_wp fun prog w A R s h => by obtain ⟨hp, g, d, tk, os⟩ := s; obtain ⟨hl, h⟩ := h; have f1 := F.sub_int_dict; wp_walk using wpAny_loadPart' hl; exact ⟨_, rfl, h⟩
section
variable {A : Around} {s : Shared}
theorem RcAt.int_dict {l : Addr} {o : Obj} {es : Array DictEntry} {n : Nat} (b : Int) (u : Tok) (ho : s.heap.get? l = some o) (hc : o.cls = .type "dict") (hd : o.data = .dict es n) (hu : A.units < cLine) : RcAt A s (.int b u) (.ref l) false := fun prog w E Q h => by
  obtain ⟨cls, dd, data, sl⟩ := o
  simp only at hc hd
  subst hc hd
  exact rc_eq_decline_or (k := false) (typeIs_int s b u) ⟨_, ho, rfl⟩ (by decide) F.sub_dict_int F.slot_int_eq F.slot_dict_eq_refl
    (fun _ hq => call_meets F.slot_int_eq (typeIs_int s b u) F.entry_int_eq (F.args_int_eq_2 _ _) (int_eq_declines_dict_int b u l (.type "dict") es n dd sl) ⟨ho, hq⟩)
    (fun _ hq => call_meets F.slot_dict_eq_refl ⟨_, ho, rfl⟩ F.entry_dict_eq (F.args_dict_eq_2 _ _) (dict_eq_declines_int l es n dd sl b u) ⟨ho, hq⟩)
    (fun _ hq => wpAny_of_eq (rfl : isSame (.int b u) (.ref l) = pure false) hq) (.inr hu) h
theorem EqAt.int_dict {l : Addr} {o : Obj} {es : Array DictEntry} {n : Nat} (b : Int) (u : Tok) (ho : s.heap.get? l = some o) (hc : o.cls = .type "dict") (hd : o.data = .dict es n) (hu : A.units < cLine) : EqAt A s (.int b u) (.ref l) false := fun prog w E Q h => by
  unfold eqBool
  refine wpAny_holding ?_
  refine wpAny_ite_split (fun hab => absurd (eq_of_beq hab) nofun) (fun _ => ?_)
  exact wpAny_bind (RcAt.int_dict b u ho hc hd hu prog w E _ (wpAny_truthy_bool h))
/-- a whole number against data of any kind -/
theorem EqAt.int_data {x : Value} {d : PyData} {as : List Addr} (b : Int) (u : Tok) (rx : Reads s.heap x d as) (hu : A.units < cLine) : EqAt A s (.int b u) x (PyData.eqv (.int b) d) := by
  cases rx with
  | none => exact EqAt.int_none b u
  | bool y => exact EqAt.int_bool b u y
  | int y v => exact EqAt.int_int b u y v
  | str y v => exact EqAt.int_str b u y v
  | list k1 k2 k3 k4 => exact EqAt.int_list b u ⟨_, k1, k2, _, k3⟩ hu
  | tuple k1 k2 k3 k4 => exact EqAt.int_tuple b u ⟨_, k1, k2, _, k3⟩ hu
  | dict k1 k2 k3 k4 k5 => exact EqAt.int_dict b u k1 k2 k3 hu
end
end SeqAt
end PySem
namespace Own
open PySem PySem.Spec PyProof.Rows L2
/-! ### x in a list or tuple of whole numbers, x of any kind -/
def inD (d : PyData) (ns : List Int) : Bool := ns.any fun n => PyData.eqv (.int n) d
section
variable {X : Cx} {A : Around} {s : Shared}
def hitD (d : PyData) (u : Value) : Bool := match u with
  | .int i _ => PyData.eqv (.int i) d
  | _ => false
theorem any_hitD {d : PyData} : ∀ {ns : List Int} {us : List Value}, Vals (ns.map V.int) us → us.any (hitD d) = inD d ns
  | [], _, .nil => rfl
  | n :: ns, _, .cons r t => by
    obtain ⟨tk, rfl⟩ := r
    rw [inD, List.any_cons, List.any_cons]
    have := any_hitD (d := d) t
    rw [inD] at this
    rw [this]
    rfl
theorem mem_hitD {x : Value} {d : PyData} {as : List Addr} (rx : Reads s.heap x d as) (hu : A.in1.units < cLine) : ∀ {ns : List Int} {us : List Value}, Vals (ns.map V.int) us → ∀ u ∈ us, SeqAt.EqAt A.in1 s u x (hitD d u)
  | [], _, .nil => fun u hu => by cases hu
  | n :: ns, _, .cons r t => fun u' h => by
    rcases List.mem_cons.mp h with rfl | h
    · obtain ⟨tk, rfl⟩ := r
      exact SeqAt.EqAt.int_data n tk rx hu
    · exact mem_hitD rx hu t u' h
/-- x in a list or tuple of whole numbers, x data of any kind -/
def rInI (K : PySem.W.Frag) (neg : Bool) : R2 := fun x y H Q => ∃ d p ns, DpD K H x d ∧ y = .ref p ∧ (SqL K H p (ns.map V.int) ∨ SqT K H p (ns.map V.int)) ∧ Q (.bl (if neg then !inD d ns else inD d ns)) H
theorem op_inI (hu : X.A.units + 64 < cLine) : OpR X (compareOp .In) (rInI X.K false) := by
  intro pins s σ H x y v u Q I rx ry h
  obtain ⟨d, p, ns, hd, rfl, hq, q⟩ := h
  obtain ⟨as, r1, _⟩ := DpD.reads I hd rx
  cases ry
  have hroom : X.A.in1.units < cLine := by show X.A.units + 1 < cLine; omega
  rcases hq with hq | hq
  · obtain ⟨its, r, pl, hz⟩ := I.list hq
    refine SeqAt.in_listAt (hitD d) pl.isList (fun w hw => mem_hitD r1 hroom r w (by simpa using hw)) ⟨.bl _, H, I, rfl, ?_⟩
    rw [show its.toArray.any (hitD d) = its.any (hitD d) by simp, any_hitD r]
    exact q
  · obtain ⟨its, r, pl, hz⟩ := I.tuple hq
    refine SeqAt.in_tupleAt (hitD d) pl (fun w hw => mem_hitD r1 hroom r w (by simpa using hw)) ⟨.bl _, H, I, rfl, ?_⟩
    rw [show its.toArray.any (hitD d) = its.any (hitD d) by simp, any_hitD r]
    exact q
theorem op_notInI (hu : X.A.units + 64 < cLine) : OpR X (compareOp .NotIn) (rInI X.K true) := by
  intro pins s σ H x y v u Q I rx ry h
  obtain ⟨d, p, ns, hd, rfl, hq, q⟩ := h
  obtain ⟨as, r1, _⟩ := DpD.reads I hd rx
  cases ry
  have hroom : X.A.in1.units < cLine := by show X.A.units + 1 < cLine; omega
  rcases hq with hq | hq
  · obtain ⟨its, r, pl, hz⟩ := I.list hq
    refine SeqAt.notIn_listAt (hitD d) pl.isList (fun w hw => mem_hitD r1 hroom r w (by simpa using hw)) ⟨.bl _, H, I, rfl, ?_⟩
    rw [show its.toArray.any (hitD d) = its.any (hitD d) by simp, any_hitD r]
    exact q
  · obtain ⟨its, r, pl, hz⟩ := I.tuple hq
    refine SeqAt.notIn_tupleAt (hitD d) pl (fun w hw => mem_hitD r1 hroom r w (by simpa using hw)) ⟨.bl _, H, I, rfl, ?_⟩
    rw [show its.toArray.any (hitD d) = its.any (hitD d) by simp, any_hitD r]
    exact q
/-- xs + ys and xs * k: the new list does not stand where sys.modules does -/
def rCatB : R2 := fun x y H Q => ∃ a c us ws, x = .ref a ∧ y = .ref c ∧ H a = some (.lst us) ∧ H c = some (.lst ws) ∧ us.length + ws.length ≤ sizeLine ∧ ∀ z, H z = none → z ≠ sysModules → Q (.ref z) (upd H z (.lst (us ++ ws)))
theorem op_catB : OpR X (binaryOp .Add) rCatB := by
  rintro pins s σ H _ _ v u Q I rx ry ⟨a, c, us, ws, rfl, rfl, ha, hc, hz, q⟩
  cases rx
  cases ry
  obtain ⟨_, vs, m, ra, la, ea⟩ := I.lstM ha
  obtain ⟨_, vt, mt, rb, lb, eb⟩ := I.lstM hc
  refine PySem.P.add_list ea eb ?_ (by rw [List.size_toArray, List.size_toArray, ← la, ← lb]; exact hz)
  rw [List.append_toArray]
  have hl := Nat.le_refl s.heap.objs.size
  exact ⟨.ref s.heap.objs.size, _, I.lnew (its := vs ++ vt) (t' := s.toks) (ra.append rb) (by rw [List.length_append]; exact hz), rfl, q _ I.fresh (size_ne I hl)⟩
theorem fold_reps (vs : List Value) : ∀ (m : Nat) (b : List Value), List.foldl (fun x1 x2 => x1 ++ x2) b.toArray (List.replicate m vs.toArray) = (b ++ (List.replicate m vs).flatten).toArray
  | 0, b => by simp
  | m + 1, b => by
    rw [List.replicate_succ, List.foldl_cons, List.append_toArray, fold_reps vs m (b ++ vs), List.replicate_succ, List.flatten_cons, List.append_assoc]
theorem reps_vals {us : List V} {vs : List Value} (r : Vals us vs) : ∀ m : Nat, Vals (List.replicate m us).flatten (List.replicate m vs).flatten
  | 0 => .nil
  | m + 1 => by
    rw [List.replicate_succ, List.replicate_succ, List.flatten_cons, List.flatten_cons]
    exact r.append (reps_vals r m)
def rRepB : R2 := fun x y H Q => ∃ a k us, x = .ref a ∧ y = .int k ∧ H a = some (.lst us) ∧ 0 ≤ k ∧ k < 1000 ∧ us.length ≤ 1000 ∧ us ≠ [] ∧ ∀ z, H z = none → z ≠ sysModules → Q (.ref z) (upd H z (.lst (List.replicate k.toNat us).flatten))
theorem op_repB : OpR X (binaryOp .Mult) rRepB := by
  rintro pins s σ H _ _ v u Q I rx ry ⟨a, k, us, rfl, rfl, ha, k0, k1, hus, hne, q⟩
  cases rx
  obtain ⟨tk, rfl⟩ := ry
  obtain ⟨_, vs, m, ra, la, ea⟩ := I.lstM ha
  have hm : us.length * k.toNat ≤ 1000 * 1000 := Nat.mul_le_mul hus (by omega)
  have big : 1000 * 1000 ≤ sizeLine := by decide
  have hsz : vs.toArray.size * k.toNat = us.length * k.toNat := by rw [List.size_toArray, la]
  have big2 : (1000 * 1000 : Nat) ≤ (2 ^ 63 - 1) / 8 := by decide
  have c1 : ¬ (!Builtin.List.listFitsIndex k) = true := by
    rw [fitsIndex_both (by omega) (by omega)]
    simp
  have c2 : ¬ vs.toArray.size * k.toNat > (2 ^ 63 - 1) / 8 := by omega
  have c3 : ¬ Builtin.List.listTooLong (vs.toArray.size * k.toNat) = true := by
    rw [notLongL (by omega)]
    simp
  have hvn : vs.toArray.isEmpty = false := by
    cases vs with
    | nil => exact absurd (List.length_eq_zero_iff.mp la) hne
    | cons x r => rfl
  have hfold : List.foldl (fun x1 x2 => x1 ++ x2) #[] (List.replicate (if vs.toArray.isEmpty = true then 0 else k.toNat) vs.toArray) = (List.replicate k.toNat vs).flatten.toArray := by
    rw [hvn, if_neg Bool.false_ne_true]
    have := fold_reps vs k.toNat []
    rw [List.nil_append] at this
    exact this
  have T1 : s.TypeIs (.ref a) "list" := ⟨_, ea, rfl⟩
  refine wpAny_binaryOp_repeat_ref (T := "list") (U := "int") (by decide) T1 (fun s2 => typeIs_int s2 k tk) noFill_list_mul F.fills_int_mul F.slot_int_rmul repeat_list F.slot_int_index.lookup ?_
  refine call_meets F.slot_int_rmul (typeIs_int s k tk) F.entry_int_rmul (F.args_int_rmul_2 _ _) (int___rmul___int_list k tk a vs.toArray m) ⟨ea, rfl, T1, ?_⟩
  refine call_meets F.slot_list_mul T1 F.entry_list_mul (F.args_list_mul_2 _ _) (AutoListH.list___mul___list_int_3 a vs.toArray m k tk c1 c2 c3) ⟨ea, ?_⟩
  rw [hfold]
  have hl := Nat.le_refl s.heap.objs.size
  have hlen : (List.replicate k.toNat us).flatten.length ≤ sizeLine := by
    rw [List.length_flatten, List.map_replicate, List.sum_replicate_nat]
    rw [Nat.mul_comm] at hm
    omega
  exact ⟨.ref s.heap.objs.size, _, I.lnew (its := (List.replicate k.toNat vs).flatten) (t' := s.toks) (reps_vals ra k.toNat) hlen, rfl, q _ I.fresh (size_ne I hl)⟩
end
end Own

namespace Own
open PySem PySem.Spec PyProof.Rows L2
/-! ### a lot that shows that one button is worse than another -/
/-- the parts whose places are not named -/
def bes (I : List Int) : Nat → List Tr → List Tr
  | _, [] => []
  | n, p :: r => (if ((n : Nat) : Int) ∈ I then [] else [p]) ++ bes I (n + 1) r
theorem bes_none {I : List Int} : ∀ {ps : List Tr} {n : Nat}, (∀ m : Nat, n ≤ m → (m : Int) ∉ I) → bes I n ps = ps
  | [], _, _ => rfl
  | p :: r, n, h => by
    rw [bes, if_neg (h n (Nat.le_refl _)), bes_none fun m hm => h m (by omega)]
    rfl
theorem bes_skip {I : List Int} {a : Int} : ∀ {ps : List Tr} {n : Nat}, a < n → bes (a :: I) n ps = bes I n ps
  | [], _, _ => rfl
  | p :: r, n, h => by
    rw [bes, bes, bes_skip (ps := r) (n := n + 1) (by omega)]
    have : ((n : Int) ∈ a :: I) ↔ (n : Int) ∈ I := by
      rw [List.mem_cons]
      exact ⟨fun z => z.elim (fun e => by omega) id, .inr⟩
    simp only [this]
theorem bes_add {I : List Int} : ∀ {ps : List Tr} {n i : Nat} {p : Tr}, ps[i]? = some p → ((n + i : Nat) : Int) ∉ I → (bes I n ps).Perm (p :: bes (((n + i : Nat) : Int) :: I) n ps)
  | [], _, _, _, h, _ => by simp at h
  | q :: r, n, 0, p, h, no => by
    simp at h
    subst h
    rw [bes, bes, if_neg (by simpa using no), if_pos (by simp), bes_skip (by omega)]
    exact List.Perm.refl _
  | q :: r, n, i + 1, p, h, no => by
    have ih := bes_add (I := I) (ps := r) (n := n + 1) (i := i) (p := p) (by simpa using h) (by rw [show n + 1 + i = n + (i + 1) by omega]; exact no)
    rw [show n + 1 + i = n + (i + 1) by omega] at ih
    rw [bes, bes]
    have : ((n : Int) ∈ ((n + (i + 1) : Nat) : Int) :: I) ↔ (n : Int) ∈ I := by
      rw [List.mem_cons]
      exact ⟨fun z => z.elim (fun e => by omega) id, .inr⟩
    simp only [this]
    exact (List.Perm.append_left _ ih).trans List.perm_middle
theorem bes_one {ps : List Tr} {i : Int} {p : Tr} (h0 : 0 ≤ i) (h : ps[i.toNat]? = some p) : ps.Perm (p :: bes [i] 0 ps) := by
  have := bes_add (I := []) (n := 0) h (by simp)
  rw [bes_none (by simp), Nat.zero_add, Int.toNat_of_nonneg h0] at this
  exact this
theorem bes_two {ps : List Tr} {i j : Int} {p q : Tr} (h0 : 0 ≤ i) (h : ps[i.toNat]? = some p) (j0 : 0 ≤ j) (hj : ps[j.toNat]? = some q) (ne : i ≠ j) : ps.Perm (p :: q :: bes [i, j] 0 ps) := by
  have h1 := bes_one j0 hj
  have h2 := bes_add (I := [j]) (n := 0) h (by rw [Nat.zero_add, Int.toNat_of_nonneg h0]; simpa using ne)
  rw [Nat.zero_add, Int.toNat_of_nonneg h0] at h2
  exact h1.trans ((h2.cons q).trans (List.Perm.swap _ _ _))
theorem bes_mem {I : List Int} {p : Tr} : ∀ {ps : List Tr} {n : Nat}, p ∈ bes I n ps → p ∈ ps
  | [], _, h => by simp [bes] at h
  | q :: r, n, h => by
    rw [bes, List.mem_append] at h
    rcases h with h | h
    · split at h
      · simp at h
      · rw [List.mem_singleton] at h
        rw [h]
        exact List.mem_cons_self
    · exact List.mem_cons_of_mem _ (bes_mem h)
theorem bes_snoc {I : List Int} (q : Tr) : ∀ (ps : List Tr) (n : Nat), bes I n (ps ++ [q]) = bes I n ps ++ (if ((n + ps.length : Nat) : Int) ∈ I then [] else [q])
  | [], n => by simp [bes]
  | p :: r, n => by
    rw [List.cons_append, bes, bes_snoc q r (n + 1), bes, List.append_assoc, List.length_cons, show n + 1 + r.length = n + (r.length + 1) by omega]
/-- one short of going, all along a way -/
def shortL : List Int → Tr → List Int
  | i :: w, .t k ps => Tr.helds ((bes [i] 0 ps).take (k - 1).toNat) ++ (match ps[i.toNat]? with | some p => shortL w p | none => [])
  | _, _ => []
def crossC (k : Int) (ps : List Tr) (p : Tr) (x : Int) : Bool := decide (k - 1 > (ps.length : Int) - 2) || p.go [x]
def crossL (k : Int) (ps : List Tr) (i j : Int) (p q : Tr) (v : List Int) (x : Int) : List Int :=
  shortL v q ++ ((if crossC k ps p x = true then p.held.filter (fun z => decide (z ≠ x)) else []) ++ Tr.helds ((bes [i, j] 0 ps).take (if crossC k ps p x = true then k - 2 else k - 1).toNat))
def worseL : List Int → List Int → Tr → Int → List Int
  | i :: w, j :: v, .t k ps, x => if i = j then Tr.helds ((bes [i] 0 ps).take (k - 1).toNat) ++ (match ps[i.toNat]? with | some p => worseL w v p x | none => [])
    else (match ps[i.toNat]?, ps[j.toNat]? with | some p, some q => crossL k ps i j p q v x | _, _ => [])
  | _, _, _, _ => []
theorem take_helds {R : List Tr} {m : Nat} {z : Int} (h : z ∈ Tr.helds (R.take m)) : z ∈ Tr.helds R := by
  rw [helds_take_drop R m]
  exact List.mem_append_left _ h
theorem take_nodup {R : List Tr} (n : (Tr.helds R).Nodup) (m : Nat) : (Tr.helds (R.take m)).Nodup := by
  rw [helds_take_drop R m] at n
  exact (List.nodup_append.mp n).1
/-- some of the others pressed whole, and what is pressed of a part -/
theorem part_mix {k : Int} {ps : List Tr} {p : Tr} {R : List Tr} (h : ps.Perm (p :: R)) (n : (Tr.helds ps).Nodup) {L : List Int} (hL : ∀ z ∈ L, z ∈ p.held) (m : Nat) : ∀ z ∈ Tr.helds ps, inS (Tr.helds (R.take m) ++ L) z = mix p (inS L) (firstOn R m) z := by
  obtain ⟨n1, n2, n3⟩ := apart h n
  intro z hz
  unfold inS firstOn
  by_cases hp : z ∈ p.held
  · rw [mix_in hp, Bool.eq_iff_iff, decide_eq_true_iff, decide_eq_true_iff, List.mem_append]
    exact ⟨fun q => q.elim (fun q => absurd (take_helds q) (n3 z hp)) id, .inr⟩
  · rw [mix_out hp, Bool.eq_iff_iff, decide_eq_true_iff, decide_eq_true_iff, List.mem_append]
    exact ⟨fun q => q.elim id fun q => absurd (hL z q) hp, .inl⟩
/-- what a lot of buttons is to two buttons of a tree -/
structure Pressed (t : Tr) (L : List Int) : Prop where
  sub : ∀ z ∈ L, z ∈ t.held
  nodup : L.Nodup
theorem Pressed.up {k : Int} {ps : List Tr} {p : Tr} {R : List Tr} (h : ps.Perm (p :: R)) (n : (Tr.helds ps).Nodup) {L : List Int} (hL : Pressed p L) (m : Nat) : Pressed (.t k ps) (Tr.helds (R.take m) ++ L) := by
  obtain ⟨n1, n2, n3⟩ := apart h n
  have hp : p ∈ ps := h.mem_iff.mpr List.mem_cons_self
  refine ⟨fun z hz => ?_, ?_⟩
  · rw [Tr.held]
    rcases List.mem_append.mp hz with hz | hz
    · have := (helds_perm h).mem_iff (a := z)
      rw [this, Tr.helds]
      exact List.mem_append_right _ (take_helds hz)
    · exact in_helds hp (hL.sub z hz)
  · rw [List.nodup_append]
    exact ⟨take_nodup n2 m, hL.nodup, fun a ha b hb e => n3 b (hL.sub b hb) (e ▸ take_helds ha)⟩
theorem gp_up_part {k : Int} {ps : List Tr} {p : Tr} {R : List Tr} (h : ps.Perm (p :: R)) (o : (Tr.t k ps).ok) (n : (Tr.helds ps).Nodup) {L : List Int} (hL : ∀ z ∈ L, z ∈ p.held) :
    gp (inS (Tr.helds (R.take (k - 1).toNat) ++ L)) (.t k ps) = gp (inS L) p ∧ ∀ x ∈ p.held, gp (wi (inS (Tr.helds (R.take (k - 1).toNat) ++ L)) x) (.t k ps) = gp (wi (inS L) x) p := by
  rw [Tr.ok] at o
  have hm := part_mix (k := k) h n hL (k - 1).toNat
  constructor
  · rw [gp_congr (R := mix p (inS L) (firstOn R (k - 1).toNat)) _ (by rw [Tr.held]; exact hm), gp_part h o.2.2 n o.1 o.2.1]
  · intro x hx
    rw [← gp_part h o.2.2 n o.1 o.2.1 (wi (inS L) x), ← wi_mix hx]
    refine gp_congr _ fun z hz => ?_
    rw [Tr.held] at hz
    unfold wi
    rw [hm z hz]
theorem nodup_of {ps : List Tr} {p : Tr} (h : p ∈ ps) (n : (Tr.helds ps).Nodup) : p.held.Nodup := by
  obtain ⟨R, hR⟩ := one_of h
  exact (apart hR n).1
theorem short_is {y : Int} : ∀ {v : List Int} {t : Tr}, t.ok → t.held.Nodup → toward t v = some (.b y) → Pressed t (shortL v t) ∧ y ∉ shortL v t ∧ gp (inS (shortL v t)) t = false ∧ gp (wi (inS (shortL v t)) y) t = true
  | [], t, o, n, h => by
    rw [toward_nil] at h
    cases h
    refine ⟨⟨fun z hz => by simp [shortL] at hz, by simp [shortL]⟩, by simp [shortL], ?_, ?_⟩
    · rw [gp]
      rfl
    · rw [gp]
      exact wi_same _ _
  | i :: v, .b z, _, _, h => by
    rw [toward] at h
    cases h
  | i :: v, .t k ps, o, n, h => by
    obtain ⟨i0, p, hp, hr⟩ := toward_cons h
    have o' := o
    rw [Tr.ok] at o'
    rw [Tr.held] at n
    have hpm := List.mem_of_getElem? hp
    have hR := bes_one i0 hp
    obtain ⟨a1, a2, a3, a4⟩ := short_is (oks_all.mp o'.2.2 p hpm) (nodup_of hpm n) hr
    obtain ⟨n1, n2, n3⟩ := apart hR n
    have hy := toward_in hr
    obtain ⟨g1, g2⟩ := gp_up_part hR o n a1.sub
    rw [shortL, hp]
    refine ⟨a1.up hR n _, fun z => ?_, by rw [g1]; exact a3, by rw [g2 y hy]; exact a4⟩
    rcases List.mem_append.mp z with z | z
    · exact n3 y hy (take_helds z)
    · exact a2 z
theorem cross_is {k : Int} {ps : List Tr} {i j : Int} {p q : Tr} {v : List Int} {x y : Int} (o : (Tr.t k ps).ok) (n : (Tr.helds ps).Nodup) (rd : redd (.t k ps)) (ne : i ≠ j) (i0 : 0 ≤ i) (hp : ps[i.toNat]? = some p) (j0 : 0 ≤ j) (hq : ps[j.toNat]? = some q) (hx : x ∈ p.held) (hpx : p ≠ .b x) (hy : toward q v = some (.b y)) :
    Pressed (.t k ps) (crossL k ps i j p q v x) ∧ x ∉ crossL k ps i j p q v x ∧ y ∉ crossL k ps i j p q v x ∧ gp (wi (inS (crossL k ps i j p q v x)) y) (.t k ps) = true ∧ gp (wi (inS (crossL k ps i j p q v x)) x) (.t k ps) = false := by
  have hR := bes_two i0 hp j0 hq ne
  rw [Tr.ok] at o
  rw [redd] at rd
  have hpm := List.mem_of_getElem? hp
  have hqm := List.mem_of_getElem? hq
  have o' := oks_perm hR o.2.2
  have n' := (helds_perm hR).nodup_iff.mp n
  have hlen := hR.length_eq
  rw [List.length_cons, List.length_cons] at hlen
  have hyq := toward_in hy
  obtain ⟨a1, a2, b1, b2⟩ := short_is (oks_all.mp o.2.2 q hqm) (nodup_of hqm n) hy
  have n'' := n'
  rw [Tr.helds, Tr.helds, List.nodup_append, List.nodup_append] at n''
  obtain ⟨np, ⟨nq, nR, nqR⟩, npq⟩ := n''
  have d1 : ∀ z ∈ p.held, z ∉ q.held := fun z a b => npq z a z (List.mem_append_left _ b) rfl
  have d2 : ∀ z ∈ p.held, z ∉ Tr.helds (bes [i, j] 0 ps) := fun z a b => npq z a z (List.mem_append_right _ b) rfl
  have d3 : ∀ z ∈ q.held, z ∉ Tr.helds (bes [i, j] 0 ps) := fun z a b => nqR z a z b rfl
  have hyp : y ∉ p.held := fun z => d1 y z hyq
  have inps : ∀ z, z ∈ Tr.helds ps ↔ z ∈ p.held ∨ z ∈ q.held ∨ z ∈ Tr.helds (bes [i, j] 0 ps) := fun z => by
    rw [(helds_perm hR).mem_iff, Tr.helds, Tr.helds, List.mem_append, List.mem_append]
  -- whatever is pressed of p without x, and so many of the others
  have main : ∀ (C : List Int) (m : Nat), (∀ z ∈ C, z ∈ p.held) → C.Nodup → x ∉ C → m ≤ (bes [i, j] 0 ps).length → k ≤ (((if gp (inS C) p = true then 1 else 0) + (1 + m) : Nat) : Int) → ¬ k ≤ (((if gp (wi (inS C) x) p = true then 1 else 0) + m : Nat) : Int) →
      Pressed (.t k ps) (shortL v q ++ (C ++ Tr.helds ((bes [i, j] 0 ps).take m))) ∧ x ∉ (shortL v q ++ (C ++ Tr.helds ((bes [i, j] 0 ps).take m))) ∧ y ∉ (shortL v q ++ (C ++ Tr.helds ((bes [i, j] 0 ps).take m))) ∧
        gp (wi (inS (shortL v q ++ (C ++ Tr.helds ((bes [i, j] 0 ps).take m)))) y) (.t k ps) = true ∧ gp (wi (inS (shortL v q ++ (C ++ Tr.helds ((bes [i, j] 0 ps).take m)))) x) (.t k ps) = false := by
    intro C m hC nC xC hm h1 h2
    generalize hL : shortL v q ++ (C ++ Tr.helds ((bes [i, j] 0 ps).take m)) = L
    have mem : ∀ z, z ∈ L ↔ z ∈ shortL v q ∨ z ∈ C ∨ z ∈ Tr.helds ((bes [i, j] 0 ps).take m) := fun z => by rw [← hL, List.mem_append, List.mem_append]
    have hmix : ∀ z ∈ Tr.helds ps, inS L z = mix p (inS C) (mix q (inS (shortL v q)) (firstOn (bes [i, j] 0 ps) m)) z := fun z hz => by
      by_cases zp : z ∈ p.held
      · rw [mix_in zp]
        unfold inS
        rw [Bool.eq_iff_iff, decide_eq_true_iff, decide_eq_true_iff, mem]
        exact ⟨fun h => h.elim (fun h => absurd (a1.sub z h) (d1 z zp)) fun h => h.elim id fun h => absurd (take_helds h) (d2 z zp), fun h => .inr (.inl h)⟩
      · rw [mix_out zp]
        by_cases zq : z ∈ q.held
        · rw [mix_in zq]
          unfold inS
          rw [Bool.eq_iff_iff, decide_eq_true_iff, decide_eq_true_iff, mem]
          exact ⟨fun h => h.elim id fun h => h.elim (fun h => absurd (hC z h) zp) fun h => absurd (take_helds h) (d3 z zq), .inl⟩
        · rw [mix_out zq]
          unfold inS firstOn
          rw [Bool.eq_iff_iff, decide_eq_true_iff, decide_eq_true_iff, mem]
          exact ⟨fun h => h.elim (fun h => absurd (a1.sub z h) zq) fun h => h.elim (fun h => absurd (hC z h) zp) id, fun h => .inr (.inr h)⟩
    have hwi : ∀ u, gp (wi (inS L) u) (.t k ps) = gp (wi (mix p (inS C) (mix q (inS (shortL v q)) (firstOn (bes [i, j] 0 ps) m))) u) (.t k ps) := fun u => gp_congr _ fun z hz => by
      rw [Tr.held] at hz
      unfold wi
      rw [hmix z hz]
    refine ⟨⟨fun z hz => ?_, ?_⟩, fun hz => ?_, fun hz => ?_, ?_, ?_⟩
    · rw [Tr.held, inps]
      rcases (mem z).mp hz with h | h | h
      · exact .inr (.inl (a1.sub z h))
      · exact .inl (hC z h)
      · exact .inr (.inr (take_helds h))
    · rw [← hL, List.nodup_append, List.nodup_append]
      refine ⟨a1.nodup, ⟨nC, take_nodup nR m, fun a ha b hb e => d2 a (hC a ha) (e ▸ take_helds hb)⟩, fun a ha b hb e => ?_⟩
      rcases List.mem_append.mp hb with hb | hb
      · exact d1 b (hC b hb) (e ▸ a1.sub a ha)
      · exact d3 a (a1.sub a ha) (e ▸ take_helds hb)
    · rcases (mem x).mp hz with h | h | h
      · exact d1 x hx (a1.sub x h)
      · exact xC h
      · exact d2 x hx (take_helds h)
    · rcases (mem y).mp hz with h | h | h
      · exact a2 h
      · exact hyp (hC y h)
      · exact d3 y hyq (take_helds h)
    · rw [hwi, wi_mix_out hyp, wi_mix hyq, gp, cp_perm _ hR, cp_two o' n' hm, b2, if_pos rfl]
      exact decide_eq_true h1
    · rw [hwi, wi_mix hx, gp, cp_perm _ hR, cp_two o' n' hm, b1, if_neg Bool.false_ne_true, Nat.zero_add]
      exact decide_eq_false h2
  cases p with
  | b u =>
    rw [Tr.held, List.mem_singleton] at hx
    exact absurd (by rw [hx]) hpx
  | t l us =>
    have hru := redds_all.mp rd.2.2 _ hpm
    have hou := oks_all.mp o.2.2 _ hpm
    rw [redd] at hru
    rw [Tr.ok] at hou
    have hc := rd.2.1 l us hpm
    have hx' := hx
    rw [Tr.held] at hx'
    have nus := np
    rw [Tr.held] at nus
    obtain ⟨r, hr, hxr⟩ := part_of hx'
    obtain ⟨R2, hR2⟩ := one_of hr
    obtain ⟨m1, m2, m3⟩ := apart hR2 nus
    have ou := oks_perm hR2 hou.2.2
    rw [Tr.oks] at ou
    have hl2 := hR2.length_eq
    rw [List.length_cons] at hl2
    have hgo : (Tr.t l us).go [x] = gp (wi (inS []) x) (.t l us) := by
      rw [go_gp]
      refine gp_congr _ fun z _ => ?_
      unfold wi inS
      simp
    have hoff : gp (wi (inS []) x) (.t l us) = decide (l ≤ ((if gp (wi (inS []) x) r = true then 1 else 0 : Nat) : Int)) := by
      rw [gp, cp_perm _ hR2, cpc, cp_wi_out (m3 x hxr), cp_off R2 ou.2 fun z _ => by unfold inS; simp]
      rfl
    unfold crossL
    cases hcc : crossC k ps (.t l us) x with
    | true =>
      rw [if_pos rfl, if_pos rfl]
      have hcond : l < (us.length : Int) ∧ 2 ≤ k := by
        unfold crossC at hcc
        rw [Bool.or_eq_true, decide_eq_true_iff] at hcc
        rcases hcc with h | h
        · have hk : k = (ps.length : Int) := by omega
          have hlu : l ≠ (us.length : Int) := fun e => hc.2 ⟨hk, e⟩
          exact ⟨by omega, by omega⟩
        · rw [hgo, hoff, decide_eq_true_iff] at h
          have hl1 : l = 1 := by
            have := hou.1
            split at h <;> omega
          have hk1 : k ≠ 1 := fun e => hc.1 ⟨e, hl1⟩
          exact ⟨by omega, by omega⟩
      have hon : gp (inS ((Tr.t l us).held.filter fun z => decide (z ≠ x))) (.t l us) = true := by
        rw [gp, cp_perm _ hR2, cpc, cp_on (S := inS _) R2 ou.2 fun z hz => ?_]
        · exact decide_eq_true (by split <;> omega)
        · unfold inS
          refine decide_eq_true (List.mem_filter.mpr ⟨?_, decide_eq_true fun e => m3 x hxr (e ▸ hz)⟩)
          rw [Tr.held, (helds_perm hR2).mem_iff, Tr.helds]
          exact List.mem_append_right _ hz
      refine main _ (k - 2).toNat (fun z hz => (List.mem_filter.mp hz).1) (np.sublist List.filter_sublist) (fun z => by have := (List.mem_filter.mp z).2; simp at this) (by omega) ?_ ?_
      · rw [hon, if_pos rfl]
        omega
      · split <;> omega
    | false =>
      rw [if_neg Bool.false_ne_true, if_neg Bool.false_ne_true]
      unfold crossC at hcc
      rw [Bool.or_eq_false_iff] at hcc
      have h1 := of_decide_eq_false hcc.1
      have h2 := hcc.2
      rw [hgo] at h2
      refine main [] (k - 1).toNat (fun z hz => by simp at hz) (by simp) (by simp) (by omega) ?_ ?_
      · split <;> omega
      · rw [h2, if_neg Bool.false_ne_true]
        omega
theorem worse_is {x y : Int} (ne : x ≠ y) : ∀ {w v : List Int} {t : Tr}, t.ok → t.held.Nodup → redd t → toward t w = some (.b x) → toward t v = some (.b y) → ¬ Nw x y t →
    Pressed t (worseL w v t x) ∧ x ∉ worseL w v t x ∧ y ∉ worseL w v t x ∧ gp (wi (inS (worseL w v t x)) y) t = true ∧ gp (wi (inS (worseL w v t x)) x) t = false
  | [], v, t, _, _, _, h1, h2, _ => by
    rw [toward_nil] at h1
    cases h1
    have := toward_in h2
    rw [Tr.held, List.mem_singleton] at this
    exact absurd this.symm ne
  | i :: w, v, .b z, _, _, _, h1, _, _ => by
    rw [toward] at h1
    cases h1
  | i :: w, [], .t k ps, _, _, _, _, h2, _ => by
    rw [toward_nil] at h2
    cases h2
  | i :: w, j :: v, .t k ps, o, n, rd, h1, h2, no => by
    obtain ⟨i0, p, hp, hr⟩ := toward_cons h1
    obtain ⟨j0, q, hq, hs⟩ := toward_cons h2
    rw [Tr.held] at n
    have hpm := List.mem_of_getElem? hp
    have hqm := List.mem_of_getElem? hq
    have hx := toward_in hr
    have hy := toward_in hs
    have o' := o
    rw [Tr.ok] at o'
    have rd' := rd
    rw [redd] at rd'
    by_cases e : i = j
    · subst e
      rw [hp] at hq
      cases hq
      have hR := bes_one i0 hp
      obtain ⟨n1, n2, n3⟩ := apart hR n
      obtain ⟨a1, a2, a3, a4, a5⟩ := worse_is ne (oks_all.mp o'.2.2 p hpm) (nodup_of hpm n) (redds_all.mp rd'.2.2 p hpm) hr hs fun h => no (.deep hpm hx hy h)
      obtain ⟨g1, g2⟩ := gp_up_part hR o n a1.sub
      rw [worseL, if_pos rfl, hp]
      refine ⟨a1.up hR n _, fun z => ?_, fun z => ?_, by rw [g2 y hy]; exact a4, by rw [g2 x hx]; exact a5⟩
      · rcases List.mem_append.mp z with z | z
        · exact n3 x hx (take_helds z)
        · exact a2 z
      · rcases List.mem_append.mp z with z | z
        · exact n3 y hy (take_helds z)
        · exact a3 z
    · rw [worseL, if_neg e, hp, hq]
      refine cross_is o n rd e i0 hp j0 hq hx (fun z => no (.here (by rw [← z]; exact hpm) (in_helds hqm hy))) hs
/-- where a part is pressed but for one button, two at least are asked -/
theorem cross_two {k : Int} {ps : List Tr} {p : Tr} {x : Int} (o : (Tr.t k ps).ok) (n : (Tr.helds ps).Nodup) (rd : redd (.t k ps)) (hp : p ∈ ps) (hx : x ∈ p.held) (hpx : p ≠ .b x) (h2 : 2 ≤ ps.length) (hc : crossC k ps p x = true) : 2 ≤ k := by
  cases p with
  | b u =>
    rw [Tr.held, List.mem_singleton] at hx
    exact absurd (by rw [hx]) hpx
  | t l us =>
    rw [Tr.ok] at o
    rw [redd] at rd
    have hou := oks_all.mp o.2.2 _ hp
    rw [Tr.ok] at hou
    have hcl := rd.2.1 l us hp
    have nus := nodup_of hp n
    rw [Tr.held] at nus hx
    obtain ⟨r, hr, hxr⟩ := part_of hx
    obtain ⟨R2, hR2⟩ := one_of hr
    obtain ⟨m1, m2, m3⟩ := apart hR2 nus
    have ou := oks_perm hR2 hou.2.2
    rw [Tr.oks] at ou
    unfold crossC at hc
    rw [Bool.or_eq_true, decide_eq_true_iff] at hc
    rcases hc with h | h
    · omega
    · have hgo : (Tr.t l us).go [x] = gp (wi (inS []) x) (.t l us) := by
        rw [go_gp]
        refine gp_congr _ fun z _ => ?_
        unfold wi inS
        simp
      rw [hgo, gp, cp_perm _ hR2, cpc, cp_wi_out (m3 x hxr), cp_off R2 ou.2 fun z _ => by unfold inS; simp] at h
      have h := of_decide_eq_true h
      have hl1 : l = 1 := by
        have := hou.1
        split at h <;> omega
      have hk1 : k ≠ 1 := fun e => hcl.1 ⟨e, hl1⟩
      omega
/-! where two ways part -/
theorem ways_part {x y : Int} (ne : x ≠ y) : ∀ {w v : List Int} {t : Tr}, toward t w = some (.b x) → toward t v = some (.b y) →
    ∃ (n : Nat) (i j k : Int) (ps : List Tr) (p q : Tr), w.take n = v.take n ∧ w[n]? = some i ∧ v[n]? = some j ∧ i ≠ j ∧ toward t (w.take n) = some (.t k ps) ∧ 0 ≤ i ∧ ps[i.toNat]? = some p ∧ 0 ≤ j ∧ ps[j.toNat]? = some q ∧
      toward p (w.drop (n + 1)) = some (.b x) ∧ toward q (v.drop (n + 1)) = some (.b y) ∧ worseL w v t x = shortL (w.take n) t ++ crossL k ps i j p q (v.drop (n + 1)) x
  | [], [], t, h1, h2 => by
    rw [h1] at h2
    cases h2
    exact absurd rfl ne
  | [], j :: v, t, h1, h2 => by
    rw [toward_nil] at h1
    cases h1
    rw [toward] at h2
    cases h2
  | i :: w, v, .b z, h1, _ => by
    rw [toward] at h1
    cases h1
  | i :: w, [], .t k ps, _, h2 => by
    rw [toward_nil] at h2
    cases h2
  | i :: w, j :: v, .t k ps, h1, h2 => by
    obtain ⟨i0, p, hp, hr⟩ := toward_cons h1
    obtain ⟨j0, q, hq, hs⟩ := toward_cons h2
    by_cases e : i = j
    · subst e
      rw [hp] at hq
      cases hq
      obtain ⟨n, i', j', k', ps', p', q', a1, a2, a3, a4, a5, a6, a7, a8, a9, a10, a11, a12⟩ := ways_part ne hr hs
      refine ⟨n + 1, i', j', k', ps', p', q', by rw [List.take_succ_cons, List.take_succ_cons, a1], a2, a3, a4, ?_, a6, a7, a8, a9, a10, a11, ?_⟩
      · rw [List.take_succ_cons, toward, if_pos i0, hp]
        exact a5
      · rw [List.take_succ_cons, worseL, if_pos rfl, hp, shortL, hp, List.append_assoc]
        exact congrArg _ a12
    · refine ⟨0, i, j, k, ps, p, q, rfl, rfl, rfl, e, toward_nil _, i0, hp, j0, hq, hr, hs, ?_⟩
      rw [worseL, if_neg e, hp, hq]
      rfl
theorem shortL_step {w : List Int} {t s : Tr} {a : Nat} {A : List Int} {i k : Int} {ps : List Tr} {p : Tr} (h : shortL w t = A ++ shortL (w.drop a) s) (hs : s = .t k ps) (hi : w[a]? = some i) (hp : ps[i.toNat]? = some p) :
    shortL w t = (A ++ Tr.helds ((bes [i] 0 ps).take (k - 1).toNat)) ++ shortL (w.drop (a + 1)) p := by
  have hd : w.drop a = i :: w.drop (a + 1) := by
    obtain ⟨hlt, e⟩ := List.getElem?_eq_some_iff.mp hi
    rw [← e]
    exact List.drop_eq_getElem_cons hlt
  rw [h, hd, hs, shortL, hp, List.append_assoc]
/-- two ascending lists of the same buttons are one -/
theorem asc_one : ∀ {L M : List Int}, L.Pairwise (· ≤ ·) → M.Pairwise (· ≤ ·) → L.Perm M → L = M := fun h1 h2 h => h.eq_of_pairwise (fun a b _ _ h1 h2 => Int.le_antisymm h1 h2) h1 h2
end Own

namespace Own
open PySem PySem.Spec PyProof.Rows L2
/-! ### for (a, b), n in d.items(), d keyed by tuples -/
def Itit (d : Addr) (o : Obj) (kvs : List (List Key × V)) : It :=
  ⟨fun i H => H d = some (.frz o (.dT kvs)) ∧ i < kvs.length, fun i H x H' => ∃ (T : Addr) (k : List Key) (v : V) (q : Addr), kvs[i]? = some (k, v) ∧ H q = some (.tup (k.map kV)) ∧ x = .ref T ∧ H T = none ∧ H' = upd H T (.tup [.ref q, v]), fun i H => H d = some (.frz o (.dT kvs)) ∧ kvs.length ≤ i⟩
section
variable {X : Cx} {pins : List (Addr × Obj)} {σ : L2.St} {H : Hp} {s : Shared} {d : Addr} {o : Obj}
theorem frz_items {kvs : List (List Key × V)} (I : Inv X pins σ H s) (h : H d = some (.frz o (.dT kvs))) :
    (d == sysModules) = false ∧ s.heap.get? d = some o ∧ o.ExactDict ∧ ∃ (es : Array DictEntry) (ep : Nat), o.data = .dict es ep ∧ es.size = kvs.length ∧
      ∀ (i : Nat) (k : List Key) (v : V), kvs[i]? = some (k, v) → ∃ (en : DictEntry) (q : Addr), es[i]? = some en ∧ en.key = .ref q ∧ H q = some (.tup (k.map kV)) ∧ RelV v en.val := by
  obtain ⟨h1, z, h2, xs, pr, o2, es, ep, h3, h4, h5, h6, _⟩ := I.hok d _ h
  rw [h1] at h3
  cases h3
  refine ⟨h2, h1, h4, es, ep, h5, ?_, fun i k v e => ?_⟩
  · rw [size_of_entries h6]
    exact (Paired.length pr).symm
  · obtain ⟨b, g1, g2, g3, g4⟩ := paired_get pr e
    have g5 := entry_at h6 i
    rw [g1] at g5
    exact ⟨_, b.2.1, g5, rfl, g3, g4⟩
theorem turn_itemsT {P : Program} {w : World} {K : PySem.W.Frag} {es : Array DictEntry} {ep : Nat} {kvs : List (List Key × V)} {elts : List Expr} {kk : Nat} {tpos : PySem.Pos} (it : Addr) (hod : o.data = .dict es ep) :
    Turn P w K (.Tuple elts kk tpos) (Itit d o kvs) [it] it (fun i h => ∃ a b, IsItemIter h it d i kvs.length ep a b) where
  mem := List.mem_singleton.mpr rfl
  obj := fun i h st b hb => by
    rw [List.mem_singleton.mp hb]
    obtain ⟨_, _, e⟩ := st
    exact ⟨_, e, fun v z => by cases z⟩
  keep := fun i h h' st k => by
    obtain ⟨a, b, e⟩ := st
    exact ⟨a, b, k it (List.mem_singleton.mpr rfl) _ e⟩
  item := by
    intro X hP hw hK hc i pins s σ H E I hf st hg
    subst hP hw hK
    obtain ⟨g1, g2⟩ := hg
    obtain ⟨h1, h2, h3, es2, ep2, h4, h5, ent⟩ := frz_items I g1
    obtain ⟨rfl, rfl⟩ := dict_ep hod h4
    obtain ⟨⟨k, v⟩, hkv⟩ : ∃ p, kvs[i]? = some p := ⟨_, List.getElem?_eq_getElem g2⟩
    obtain ⟨en, q, hen, hkey, hq, rv⟩ := ent i k v hkv
    obtain ⟨hlt, he⟩ := Array.getElem?_eq_some_iff.mp hen
    obtain ⟨a, b, st⟩ := st
    rw [← h5] at st
    have lo : it < s.heap.objs.size := Heap.lt_size st
    refine wpAny_pyNext_items_item_raw st ⟨o, h2, h3, h4⟩ hlt fun h7 hout hT hz hk => ?_
    rw [he] at hout hT
    refine ⟨_, rfl, wpAny_letOwnedTupleGo_items (s := { s with heap := h7 }) hout fun h8 hit sb => ?_⟩
    have hT8 := (sb.2 _ (Nat.ne_of_gt lo)).trans hT
    have fresh := I.hok.fresh (Nat.le_refl s.heap.objs.size)
    have nq : q ≠ s.heap.objs.size := fun z => by
      rw [z, fresh] at hq
      cases hq
    have I8 : Inv X pins σ (upd H s.heap.objs.size (.tup [.ref q, v])) { s with heap := h8 } := by
      refine I.turnedNew (t' := s.toks) (ch := [it]) (fun c ob hc e => ?_) hf (Nat.le_refl _) ⟨by show 2 ≤ sizeLine; decide, [en.key, en.val], .cons ?_ (.cons rv .nil), _, hT8, rfl, _, rfl⟩
      · have nc : c ≠ it := fun z => hc (List.mem_singleton.mpr z)
        exact (sb.2 c nc).trans (hk c ob nc e)
      · rw [hkey]
        exact rfl
    refine ⟨.ref s.heap.objs.size, _, I8, rfl, ⟨_, k, v, q, hkv, hq, rfl, fresh, rfl⟩, ⟨en.key, en.val, ?_⟩, fun c hc => ?_⟩
    · rw [← h5]
      exact hit
    · rw [List.mem_singleton.mp hc, upd_ne (Nat.ne_of_lt lo)]
      exact (hf it (List.mem_singleton.mpr rfl)).1
  done := by
    intro X hP hw hK hc i pins s σ H E I hf st hg
    subst hP hw hK
    obtain ⟨g1, g2⟩ := hg
    obtain ⟨f0, f1, f2, f3, f4, f5⟩ := hf it (List.mem_singleton.mpr rfl)
    obtain ⟨h1, h2, h3, es2, ep2, h4, h5, ent⟩ := frz_items I g1
    obtain ⟨rfl, rfl⟩ := dict_ep hod h4
    obtain ⟨a, b, st⟩ := st
    rw [← h5] at st
    exact wpAny_pyNext_items_end_raw (I.ok.hd hc) st ⟨o, h2, h3, h4⟩ (by omega) fun h7 eb => ⟨rfl, I.turned (t' := s.toks) (fun c ob hc e => eb c ob hc e) f0 f1 f3 f4 f5⟩
  self := fun A i s Q E st h => by
    obtain ⟨_, _, e⟩ := st
    exact PySem.W.kcp_self e h
def iItemsT (td : TE) : TI := fun σ H R => td σ H fun x H1 => ∃ d o kvs, x = .ref d ∧ H1 d = some (.frz o (.dT kvs)) ∧ R (Itit d o kvs) H1
theorem pi_itemsT {e : Expr} {td : TE} {apos cpos : PySem.Pos} {elts : List Expr} {kk : Nat} {tpos : PySem.Pos} (he : PE X e td) (hbase : attributeBase e "items" X.env (eval e X.env) = eval e X.env := by rfl) (hline : (apos.endLine == cpos.line) = true := by rfl) :
    PI X (.Tuple elts kk tpos) (.Call (.Attribute e "items" apos) [] [] cpos) (iItemsT td) := by
  refine ⟨fun pins s σ H R I h => ?_⟩
  refine wpAny_Call_method (T := "dict") (id := "dict.items") hbase rfl hline F.plainAttrs_dict F.slot_dict_items F.type_dict_items (thn (he.run pins s σ H _ I h) fun u s1 g => ?_)
  obtain ⟨x, H1, I1, rx, d, o, kvs, rfl, hd, q⟩ := g
  cases rx
  obtain ⟨h1, h2, h3, es, ep, h4, h5, ent⟩ := frz_items I1 hd
  have raw : s1.heap.DictRaw d es ep := ⟨o, h2, h3, h4⟩
  refine ⟨raw.typeIs, ?_, ?_⟩
  · intro a ea
    cases ea
    exact ⟨o, h2, h3.2.1⟩
  have I2 : Inv X pins σ H1 { s1 with heap := s1.heap.push { cls := .type "dict_items", data := .fields #[.ref d] } } := I1.kept (t' := s1.toks) fun b ob z => Heap.get?_push_of_some _ z
  have fin : wpAny (model X.prog X.w) X.A (pyIter (.ref s1.heap.objs.size)) (PIE X pins σ (.Tuple elts kk tpos) R) X.xe { s1 with heap := s1.heap.push { cls := .type "dict_items", data := .fields #[.ref d] } } := by
    refine wpAny_pyIter_items_raw (d := d) ⟨_, Heap.get?_push_size _ rfl, rfl, rfl⟩ ⟨o, Heap.get?_push_of_some _ h2, h3, h4⟩ (pi_one (tk := s1.toks) I2 _ (turn_itemsT _ h4) ⟨.none, .none, ?_⟩ q)
    rw [← h5]
    exact Heap.get?_push_size _ rfl
  show wpAny _ _ (callWith cpos (.builtin "dict.items") [.ref d] [] []) _ X.xe s1
  exact method_meetsIn F.slot_dict_items F.entry_dict_items rfl (PySem.evalArgs_none ⟨rfl, raw.typeIs, F.args_dict_items_1 _, _, meets_dict_items_raw d h1, ⟨⟨es, ep, raw⟩, fin⟩⟩)
end
theorem walk_itemsT {d : Addr} {o : Obj} {kvs : List (List Key × V)} : Walk (Itit d o kvs) kvs.length (fun H => H d = some (.frz o (.dT kvs)))
    (fun i H x H' => ∃ (T : Addr) (k : List Key) (v : V) (q : Addr), kvs[i]? = some (k, v) ∧ H q = some (.tup (k.map kV)) ∧ x = .ref T ∧ H T = none ∧ H' = upd H T (.tup [.ref q, v])) :=
  ⟨fun _ _ hi q => ⟨q, hi⟩, fun _ q => ⟨q, Nat.le_refl _⟩, fun _ _ _ _ _ _ y => y⟩
end Own
namespace Own
open PySem PySem.Spec PyProof.Rows L2
/-! ### {(a, b): v, ..}: keys that are tuples, each another one -/
def tDispT (trs : List (TE × TE)) : TE := fun σ H Q => ∀ p, H p = none → tPairs trs σ (upd H p (.dT [])) fun ps H2 => H2 p = some (.dT []) ∧ ∃ es : List (Addr × List L2.Key × V), ps = es.map (fun e => (V.ref e.1, e.2.2)) ∧ (∀ e ∈ es, H2 e.1 = some (.tup (e.2.1.map kV))) ∧ (es.map fun e => e.2.1).Nodup ∧ es.length ≤ 15 ∧ Q (.ref p) (upd H2 p (.dT (es.map fun e => (e.2.1, e.2.2))))
theorem stored_new {κ : Type} [DecidableEq κ] : ∀ (ps acc : List (κ × Addr × Value)), ((acc ++ ps).map (·.1)).Nodup → storedAllH acc ps = acc ++ ps
  | [], acc, _ => by rw [List.append_nil]; rfl
  | p :: ps, acc, n => by
    have hn : atKey acc p.1 = none := by
      rw [List.map_append, List.nodup_append] at n
      cases h : atKey acc p.1 with
      | none => rfl
      | some q =>
        exfalso
        unfold atKey at h
        obtain ⟨e, he, _⟩ := Option.map_eq_some_iff.mp h
        have h1 := List.find?_some he
        have h2 := List.mem_of_find?_eq_some he
        exact n.2.2 e.1 (List.mem_map.mpr ⟨e, h2, rfl⟩) p.1 (List.mem_map.mpr ⟨p, List.mem_cons_self, rfl⟩) (by simpa using h1)
    show storedAllH (storedH acc p.1 p.2.1 p.2.2) ps = _
    rw [storedH_new hn, stored_new ps (acc ++ [(p.1, p.2.1, p.2.2)]) (by simpa using n), List.append_assoc]
    rfl
section
variable {X : Cx} {pins : List (Addr × Obj)} {σ : L2.St} {H : Hp} {s : Shared}
theorem carriesH_of (ok : HOk X.prog X.w H s.heap) : ∀ {es : List (Addr × List L2.Key × V)} {ws : List (Value × Value)}, (∀ e ∈ es, H e.1 = some (.tup (e.2.1.map kV))) → VV (es.map fun e => (V.ref e.1, e.2.2)) ws →
    ∃ rs : List (List L2.Key × Addr × Value), CarriesH (tupleKind (mixKind X.prog X.w)) s.heap ws rs ∧ rs.map (·.1) = es.map (fun e => e.2.1) ∧ L2.KT H (es.map fun e => (e.2.1, e.2.2)) rs
  | [], _, _, r => by
    cases r
    exact ⟨[], True.intro, rfl, .nil⟩
  | e :: es, _, h, r => by
    cases r with
    | @cons a b as bs g t =>
      obtain ⟨rs, c1, c2, c3⟩ := carriesH_of ok (fun x hx => h x (List.mem_cons_of_mem _ hx)) t
      obtain ⟨b1, b2⟩ := b
      have h1 := h e List.mem_cons_self
      have hb : b1 = .ref e.1 := g.1
      refine ⟨(e.2.1, e.1, b2) :: rs, ⟨hb, rfl, key_keeps ok h1 fun o z => z, c1⟩, by rw [List.map_cons, List.map_cons, c2], .cons ⟨rfl, h1, g.2⟩ c3⟩
theorem pe_dispT (hu : X.A.units + 1 < cLine) {pos : PySem.Pos} {keys : List (Option Expr)} {values : List Expr} {trs : List (TE × TE)} (h : PPs X pos keys values trs) (hall : keys.all (·.isSome) = true) (hl : keys.length = values.length) (h0 : keys ≠ [])
    (h15 : keys.length ≤ 15) : PE X (.Dict keys values pos) (tDispT trs) := by
  refine ⟨fun pins s σ H Q I q => ?_⟩
  have hn := I.hok.fresh (Nat.le_refl s.heap.objs.size)
  have I1 := I.laid (a := s.heap.objs.size) (o := .dT []) (h' := s.heap.push { cls := .type "dict", data := .dict #[] }) (t' := s.toks) (fun _ _ z => Heap.get?_push_of_some _ z) (Nat.le_refl _) (dt_empty s.heap I.big)
  have hlen := pairTrees_length keys values X.env pos hall hl
  have hne : pairTrees keys values X.env pos ≠ [] := fun z => by
    rw [z] at hlen
    exact h0 (List.length_eq_zero_iff.mp hlen.symm)
  rw [arm_eval_Dict, zip_pairTrees keys values X.env pos hall hl, dictDisplay_pairs _ hne (by omega)]
  refine wpAny_bind (wpAny_standAt (wpAny_bind (wpAny_subDictH (knd := tupleKind (mixKind X.prog X.w)) (show X.A.units < cLine by omega) (by omega) ?_)))
  refine thn (h.run pins _ σ _ _ I1 (q _ hn)) fun ws s2 g => ?_
  obtain ⟨ps, H2, I2, rel, e, es, rfl, hks, nd, lk, q2⟩ := g
  obtain ⟨rs, c1, c2, c3⟩ := carriesH_of I2.hok hks rel
  obtain ⟨z, hd, xs, r0, dd⟩ := dt_of I2.hok e
  cases r0
  refine ⟨rs, c1, dd, fun h' tk dd' hs => wpAny_pure ⟨.ref s.heap.objs.size, _, ?_, rfl, q2⟩⟩
  have hst : storedAllH [] rs = rs := by
    rw [stored_new rs [] (by rw [List.nil_append, c2]; exact nd), List.nil_append]
  rw [hst] at dd'
  have he : ∃ o, h'.get? s.heap.objs.size = some o := let ⟨o, _, _, ho, _⟩ := dd'; ⟨o, ho⟩
  have hz : (es.map fun e => (e.2.1, e.2.2)).length ≤ sizeLine := by
    rw [List.length_map]
    exact Nat.le_trans lk (by decide)
  refine d_write I2 (by rw [e]; exact True.intro) hs he (dT_ok hz hd ?_ dd')
  refine L2.Paired.mapP c3 fun a b g => ⟨g.1, ?_, g.2.2⟩
  rw [upd_ne]
  · exact g.2.1
  · intro y
    have := g.2.1
    rw [y, e] at this
    cases this
end
end Own

namespace Own
open PySem PySem.Spec PyProof.Rows L2
/-! ### counts of what a thing does with one button and with another *--/
abbrev Pr := Nat × Nat
abbrev Cn := List (Pr × Nat)
def addK : Cn → Pr → Nat → Cn
  | [], k, v => [(k, v)]
  | e :: r, k, v => if e.1 = k then (e.1, e.2 + v) :: r else e :: addK r k v
def getK : Cn → Pr → Option Nat
  | [], _ => none
  | e :: r, k => if e.1 = k then some e.2 else getK r k
def wsum : Cn → (Pr → Nat) → Nat
  | [], _ => 0
  | e :: r, φ => e.2 * φ e.1 + wsum r φ
theorem wsum_add (φ : Pr → Nat) (k : Pr) (v : Nat) : ∀ A : Cn, wsum (addK A k v) φ = wsum A φ + v * φ k
  | [] => by simp [addK, wsum]
  | e :: r => by
    rw [addK]
    by_cases h : e.1 = k
    · rw [if_pos h, wsum, wsum, h, Nat.add_mul]
      omega
    · rw [if_neg h, wsum, wsum, wsum_add φ k v r]
      omega
theorem wsum_app (φ : Pr → Nat) : ∀ A B : Cn, wsum (A ++ B) φ = wsum A φ + wsum B φ
  | [], B => by simp [wsum]
  | e :: r, B => by
    rw [List.cons_append, wsum, wsum, wsum_app φ r B]
    omega
def keys (A : Cn) : List Pr := A.map Prod.fst
theorem keys_add (k : Pr) (v : Nat) : ∀ A : Cn, keys (addK A k v) = if k ∈ keys A then keys A else keys A ++ [k]
  | [] => by simp [addK, keys]
  | e :: r => by
    rw [addK]
    have ih := keys_add k v r
    unfold keys at ih ⊢
    by_cases h : e.1 = k
    · rw [if_pos h]
      simp [h]
    · rw [if_neg h, List.map_cons, ih, List.map_cons]
      have h' : k ≠ e.1 := fun z => h z.symm
      by_cases c : k ∈ r.map Prod.fst
      · rw [if_pos c, if_pos (List.mem_cons_of_mem _ c)]
      · rw [if_neg c, if_neg (fun z => (List.mem_cons.mp z).elim h' c), List.cons_append]
theorem add_nodup {A : Cn} {k : Pr} {v : Nat} (n : (keys A).Nodup) : (keys (addK A k v)).Nodup := by
  rw [keys_add]
  split
  · exact n
  · rename_i c
    exact List.nodup_append.mpr ⟨n, by simp, fun a ha b hb e => c (by rw [List.mem_singleton.mp hb] at e; exact e ▸ ha)⟩
theorem add_mem {A : Cn} {k j : Pr} {v : Nat} (h : j ∈ keys (addK A k v)) : j ∈ keys A ∨ j = k := by
  rw [keys_add] at h
  split at h
  · exact .inl h
  · exact (List.mem_append.mp h).imp id List.mem_singleton.mp
theorem getK_none {k : Pr} : ∀ {A : Cn}, k ∉ keys A → getK A k = none
  | [], _ => rfl
  | e :: r, h => by
    unfold keys at h
    rw [List.map_cons, List.mem_cons] at h
    rw [getK, if_neg fun z => h (.inl z.symm), getK_none (A := r) fun z => h (.inr z)]
/-- what is counted under a key -/
theorem wsum_one (k : Pr) : ∀ {A : Cn}, (keys A).Nodup → wsum A (fun j => if j = k then 1 else 0) = (getK A k).getD 0
  | [], _ => rfl
  | e :: r, n => by
    unfold keys at n
    rw [List.map_cons, List.nodup_cons] at n
    have ih := wsum_one k (A := r) n.2
    rw [wsum, getK]
    by_cases h : e.1 = k
    · have : getK r k = none := getK_none (h ▸ n.1)
      rw [this] at ih
      rw [if_pos h, if_pos h, ih]
      simp
    · rw [if_neg h, if_neg h, ih]
      simp
theorem wsum_mem {e : Pr × Nat} : ∀ {A : Cn}, e ∈ A → e.2 ≤ wsum A (fun _ => 1)
  | [], h => nomatch h
  | a :: r, h => by
    rw [wsum]
    rcases List.mem_cons.mp h with h | h
    · subst h
      omega
    · have := wsum_mem h
      omega
/-! as a dict by pairs -/
def pK (k : Pr) : List L2.Key := [.inl (k.1 : Int), .inl (k.2 : Int)]
theorem pK_inj {k j : Pr} (h : pK k = pK j) : k = j := by
  unfold pK at h
  injection h with h1 h2
  injection h2 with h3 _
  injection h1 with h1
  injection h3 with h3
  exact Prod.ext (by omega) (by omega)
def entC (A : Cn) : List (List L2.Key × V) := A.map fun e => (pK e.1, V.int (e.2 : Int))
theorem entC_get (k : Pr) : ∀ A : Cn, valV (entC A) (pK k) = (getK A k).map fun n => V.int (n : Int)
  | [] => rfl
  | e :: r => by
    show valV ((pK e.1, V.int (e.2 : Int)) :: entC r) (pK k) = _
    rw [getK]
    by_cases h : e.1 = k
    · rw [if_pos h, valV_pos (by rw [h])]
      rfl
    · rw [if_neg h, valV_neg (fun z => h (pK_inj z)), entC_get k r]
theorem entC_any (k : Pr) : ∀ A : Cn, ((entC A).any fun kv => decide (kv.1 = pK k)) = decide (k ∈ keys A)
  | [] => by simp [entC, keys]
  | e :: r => by
    have ih := entC_any k r
    unfold entC keys at ih ⊢
    rw [List.map_cons, List.any_cons, ih, List.map_cons]
    have : (pK e.1 = pK k) ↔ k = e.1 := ⟨fun z => (pK_inj z).symm, fun z => by rw [z]⟩
    rw [Bool.eq_iff_iff, Bool.or_eq_true, decide_eq_true_iff, decide_eq_true_iff, decide_eq_true_iff, List.mem_cons, this]
theorem add_in {k : Pr} {v : Nat} : ∀ {A : Cn}, (keys A).Nodup → k ∈ keys A → entC (addK A k v) = (entC A).map fun kv => if kv.1 = pK k then (kv.1, V.int (((getK A k).getD 0 + v : Nat) : Int)) else kv
  | [], _, h => by simp [keys] at h
  | e :: r, n, h => by
    unfold keys at n h
    rw [List.map_cons, List.nodup_cons] at n
    rw [List.map_cons, List.mem_cons] at h
    rw [addK, getK]
    by_cases c : e.1 = k
    · rw [if_pos c, if_pos c]
      show (pK e.1, V.int ((e.2 + v : Nat) : Int)) :: entC r = List.map _ ((pK e.1, V.int (e.2 : Int)) :: entC r)
      rw [List.map_cons, if_pos (by rw [c])]
      congr 1
      symm
      refine (List.map_congr_left fun kv hkv => ?_).trans (List.map_id _)
      unfold entC at hkv
      obtain ⟨e2, he2, rfl⟩ := List.mem_map.mp hkv
      rw [if_neg fun z => n.1 (by rw [c, ← pK_inj z]; exact List.mem_map.mpr ⟨e2, he2, rfl⟩)]
      rfl
    · rw [if_neg c, if_neg c]
      have hk : k ∈ keys r := h.resolve_left fun z => c z.symm
      show (pK e.1, V.int (e.2 : Int)) :: entC (addK r k v) = List.map _ ((pK e.1, V.int (e.2 : Int)) :: entC r)
      rw [List.map_cons, if_neg (fun z => c (pK_inj z)), add_in n.2 hk]
theorem add_out {k : Pr} {v : Nat} : ∀ {A : Cn}, k ∉ keys A → addK A k v = A ++ [(k, v)]
  | [], _ => rfl
  | e :: r, h => by
    unfold keys at h
    rw [List.map_cons, List.mem_cons] at h
    rw [addK, if_neg fun z => h (.inl z.symm), add_out (A := r) fun z => h (.inr z)]
    rfl
theorem entC_put {A : Cn} {k : Pr} {v : Nat} (n : (keys A).Nodup) : putK (entC A) (pK k) (.int (((getK A k).getD 0 + v : Nat) : Int)) = entC (addK A k v) := by
  unfold putK
  rw [entC_any]
  by_cases c : k ∈ keys A
  · rw [if_pos (decide_eq_true c), add_in n c]
  · rw [if_neg (fun z => c (of_decide_eq_true z)), add_out c, getK_none c]
    unfold entC
    rw [List.map_append]
    simp
/-! what is counted -/
def wa (x y : Int) (i : Int) : Nat := if i = x ∨ i = y then 0 else 1
def wb (_ : Int) : Nat := 1
def kT (x y : Int) (t : Tr) (L : List Int) : Pr := (ind (gp (wi (inS L) x) t), ind (gp (wi (inS L) y) t))
def kP (x y : Int) (ps : List Tr) (L : List Int) : Pr := (cp (wi (inS L) x) ps, cp (wi (inS L) y) ps)
/-- the counts tell, of all lots without x and y, how many do so -/
def Rep (A : Cn) (x y : Int) (X : List Int) (k : List Int → Pr) : Prop := ∀ φ : Pr → Nat, wsum A φ = cs (wa x y) wb X fun L => φ (k L)
theorem rep_one {x y : Int} (ne : x ≠ y) : Rep [((1, 0), 1)] x y [x] (kT x y (.b x)) := fun φ => by
  rw [wsum, wsum, cs, cs, cs]
  unfold wa wb kT ind inS wi
  simp [gp, ne]
theorem rep_other {x y : Int} (ne : x ≠ y) : Rep [((0, 1), 1)] x y [y] (kT x y (.b y)) := fun φ => by
  rw [wsum, wsum, cs, cs, cs]
  unfold wa wb kT ind inS wi
  have : ¬ y = x := fun z => ne z.symm
  simp [gp, this]
theorem rep_free {x y z : Int} (n1 : z ≠ x) (n2 : z ≠ y) : Rep [((0, 0), 1), ((1, 1), 1)] x y [z] (kT x y (.b z)) := fun φ => by
  rw [wsum, wsum, wsum, cs, cs, cs]
  unfold wa wb kT ind inS wi
  simp [gp, n1, n2]
theorem rep_nil (x y : Int) : Rep [((0, 0), 1)] x y [] (kP x y []) := fun φ => by
  rw [wsum, wsum, cs]
  unfold kP
  simp [cp]
theorem cp_snoc (S : Int → Bool) (ps : List Tr) (p : Tr) : cp S (ps ++ [p]) = cp S ps + ind (gp S p) := by
  rw [cp_app, cp, cp]
  unfold ind
  omega
def addP (k j : Pr) : Pr := (k.1 + j.1, k.2 + j.2)
theorem rep_conv {x y : Int} {A B F : Cn} {ps : List Tr} {p : Tr} (n : (Tr.helds (ps ++ [p])).Nodup) (hA : Rep A x y (Tr.helds ps) (kP x y ps)) (hB : Rep B x y p.held (kT x y p)) (hF : ∀ φ, wsum F φ = wsum A fun k => wsum B fun j => φ (addP k j)) :
    Rep F x y (Tr.helds (ps ++ [p])) (kP x y (ps ++ [p])) := fun φ => by
  have e : Tr.helds (ps ++ [p]) = Tr.helds ps ++ p.held := helds_snoc ps p
  rw [e, List.nodup_append] at n
  rw [e, cs_append, hF, hA]
  refine cs_congr fun L hL => ?_
  rw [hB]
  refine cs_congr fun M hM => ?_
  congr 1
  unfold addP kP kT
  have h1 : ∀ u, cp (wi (inS (L ++ M)) u) ps = cp (wi (inS L) u) ps := fun u => cp_congr ps fun z hz => by
    unfold wi inS
    congr 1
    rw [Bool.eq_iff_iff, decide_eq_true_iff, decide_eq_true_iff, List.mem_append]
    exact ⟨fun q => q.elim id fun q => absurd rfl (n.2.2 z hz z (hM.subset q)), .inl⟩
  have h2 : ∀ u, gp (wi (inS (L ++ M)) u) p = gp (wi (inS M) u) p := fun u => gp_congr p fun z hz => by
    unfold wi inS
    congr 1
    rw [Bool.eq_iff_iff, decide_eq_true_iff, decide_eq_true_iff, List.mem_append]
    exact ⟨fun q => q.elim (fun q => absurd rfl (n.2.2 z (hL.subset q) z hz)) id, .inr⟩
  rw [cp_snoc, cp_snoc, h1, h1, h2, h2]
def doesP (b : Int) (k : Pr) : Pr := (ind (decide (b ≤ (k.1 : Int))), ind (decide (b ≤ (k.2 : Int))))
theorem rep_does {x y : Int} {A F : Cn} {b : Int} {ps : List Tr} (hA : Rep A x y (Tr.helds ps) (kP x y ps)) (hF : ∀ φ, wsum F φ = wsum A fun k => φ (doesP b k)) : Rep F x y (Tr.t b ps).held (kT x y (.t b ps)) := fun φ => by
  rw [hF, hA, Tr.held]
  refine cs_congr fun L _ => ?_
  unfold doesP kP kT
  rw [gp, gp]
theorem rep_total {A : Cn} {x y : Int} {X : List Int} {k : List Int → Pr} (h : Rep A x y X k) : wsum A (fun _ => 1) ≤ 2 ^ X.length := by
  rw [h]
  exact cs_le X _ (fun z _ => by unfold wa wb; split <;> omega) fun _ => Nat.le_refl _
/-- how many lots without both go with x and fail with y -/
def gainN (x y : Int) (t : Tr) : Nat := cs (wa x y) wb t.held fun L => if gp (wi (inS L) x) t = true ∧ gp (wi (inS L) y) t = false then 1 else 0
theorem rep_gain {A : Cn} {x y : Int} {t : Tr} (n : (keys A).Nodup) (h : Rep A x y t.held (kT x y t)) : (getK A (1, 0)).getD 0 = gainN x y t := by
  rw [← wsum_one _ n, h]
  refine cs_congr fun L _ => ?_
  unfold kT ind
  cases gp (wi (inS L) x) t <;> cases gp (wi (inS L) y) t <;> simp
end Own

namespace My
open PySem PySem.Spec PyProof.Rows L2 Own
def top (i : Nat) : Stmt := PySem.Challenge.pw_onescale_k28_gains_of_one_lot.main.body.getD i (.Pass ⟨0, 0, 0, 0⟩)
abbrev s__wall : Stmt := top 0
abbrev n__wall : List Str := ["k"]
abbrev p__wall : List Str := ["k"]
theorem sc__wall : FnScope n__wall p__wall (defScope s__wall) := ⟨rfl, rfl, rfl, by decide +kernel, rfl, by decide +kernel, by decide +kernel⟩
abbrev s_is_integer : Stmt := top 6
abbrev n_is_integer : List Str := ["value"]
abbrev p_is_integer : List Str := ["value"]
theorem sc_is_integer : FnScope n_is_integer p_is_integer (defScope s_is_integer) := ⟨rfl, rfl, rfl, by decide +kernel, rfl, by decide +kernel, by decide +kernel⟩
abbrev s_is_trip : Stmt := top 7
abbrev n_is_trip : List Str := ["thing"]
abbrev p_is_trip : List Str := ["thing"]
theorem sc_is_trip : FnScope n_is_trip p_is_trip (defScope s_is_trip) := ⟨rfl, rfl, rfl, by decide +kernel, rfl, by decide +kernel, by decide +kernel⟩
abbrev s_least_button : Stmt := top 8
abbrev n_least_button : List Str := ["thing"]
abbrev p_least_button : List Str := ["thing"]
theorem sc_least_button : FnScope n_least_button p_least_button (defScope s_least_button) := ⟨rfl, rfl, rfl, by decide +kernel, rfl, by decide +kernel, by decide +kernel⟩
abbrev s_without_button : Stmt := top 9
abbrev n_without_button : List Str := ["lot", "button", "other"]
abbrev p_without_button : List Str := ["lot", "button"]
theorem sc_without_button : FnScope n_without_button p_without_button (defScope s_without_button) := ⟨rfl, rfl, rfl, by decide +kernel, rfl, by decide +kernel, by decide +kernel⟩
abbrev s_buttons_of : Stmt := top 11
abbrev n_buttons_of : List Str := ["tree", "found", "part"]
abbrev p_buttons_of : List Str := ["tree"]
theorem sc_buttons_of : FnScope n_buttons_of p_buttons_of (defScope s_buttons_of) := ⟨rfl, rfl, rfl, by decide +kernel, rfl, by decide +kernel, by decide +kernel⟩
abbrev s_part_at : Stmt := top 12
abbrev n_part_at : List Str := ["tree", "value", "thing", "place"]
abbrev p_part_at : List Str := ["tree", "value"]
theorem sc_part_at : FnScope n_part_at p_part_at (defScope s_part_at) := ⟨rfl, rfl, rfl, by decide +kernel, rfl, by decide +kernel, by decide +kernel⟩
abbrev s_way_to : Stmt := top 13
abbrev n_way_to : List Str := ["tree", "value", "way"]
abbrev p_way_to : List Str := ["tree", "value"]
theorem sc_way_to : FnScope n_way_to p_way_to (defScope s_way_to) := ⟨rfl, rfl, rfl, by decide +kernel, rfl, by decide +kernel, by decide +kernel⟩
abbrev s__way_from : Stmt := top 14
abbrev n__way_from : List Str := ["thing", "button", "place", "part", "way"]
abbrev p__way_from : List Str := ["thing", "button"]
theorem sc__way_from : FnScope n__way_from p__way_from (defScope s__way_from) := ⟨rfl, rfl, rfl, by decide +kernel, rfl, by decide +kernel, by decide +kernel⟩
abbrev s_goes : Stmt := top 16
abbrev n_goes : List Str := ["tree", "lot", "bound", "parts", "part"]
abbrev p_goes : List Str := ["tree", "lot"]
theorem sc_goes : FnScope n_goes p_goes (defScope s_goes) := ⟨rfl, rfl, rfl, by decide +kernel, rfl, by decide +kernel, by decide +kernel⟩
abbrev s_told : Stmt := top 18
abbrev n_told : List Str := ["tree", "bound", "parts", "inner", "word", "spread", "part"]
abbrev p_told : List Str := ["tree"]
theorem sc_told : FnScope n_told p_told (defScope s_told) := ⟨rfl, rfl, rfl, by decide +kernel, rfl, by decide +kernel, by decide +kernel⟩
abbrev s__trip_word : Stmt := top 19
abbrev n__trip_word : List Str := ["bound", "many"]
abbrev p__trip_word : List Str := ["bound", "many"]
theorem sc__trip_word : FnScope n__trip_word p__trip_word (defScope s__trip_word) := ⟨rfl, rfl, rfl, by decide +kernel, rfl, by decide +kernel, by decide +kernel⟩
abbrev s_no_worse : Stmt := top 21
abbrev n_no_worse : List Str := ["tree", "one", "other", "way", "other_way"]
abbrev p_no_worse : List Str := ["tree", "one", "other"]
theorem sc_no_worse : FnScope n_no_worse p_no_worse (defScope s_no_worse) := ⟨rfl, rfl, rfl, by decide +kernel, rfl, by decide +kernel, by decide +kernel⟩
abbrev s_worse_lot : Stmt := top 22
abbrev n_worse_lot : List Str := ["tree", "one", "other", "way", "other_way", "meet", "bound", "parts", "mine", "others", "pressed", "missing", "part"]
abbrev p_worse_lot : List Str := ["tree", "one", "other"]
theorem sc_worse_lot : FnScope n_worse_lot p_worse_lot (defScope s_worse_lot) := ⟨rfl, rfl, rfl, by decide +kernel, rfl, by decide +kernel, by decide +kernel⟩
abbrev s__places_alike : Stmt := top 23
abbrev n__places_alike : List Str := ["one", "other", "alike"]
abbrev p__places_alike : List Str := ["one", "other"]
theorem sc__places_alike : FnScope n__places_alike p__places_alike (defScope s__places_alike) := ⟨rfl, rfl, rfl, by decide +kernel, rfl, by decide +kernel, by decide +kernel⟩
abbrev s__one_short : Stmt := top 24
abbrev n__one_short : List Str := ["tree", "way", "pressed", "thing", "place", "bound", "parts", "part"]
abbrev p__one_short : List Str := ["tree", "way"]
theorem sc__one_short : FnScope n__one_short p__one_short (defScope s__one_short) := ⟨rfl, rfl, rfl, by decide +kernel, rfl, by decide +kernel, by decide +kernel⟩
abbrev s__besides : Stmt := top 25
abbrev n__besides : List Str := ["parts", "places", "place", "part"]
abbrev p__besides : List Str := ["parts", "places"]
theorem sc__besides : FnScope n__besides p__besides (defScope s__besides) := ⟨rfl, rfl, rfl, by decide +kernel, rfl, by decide +kernel, by decide +kernel⟩
abbrev s_gain : Stmt := top 26
abbrev n_gain : List Str := ["tree", "one", "other"]
abbrev p_gain : List Str := ["tree", "one", "other"]
theorem sc_gain : FnScope n_gain p_gain (defScope s_gain) := ⟨rfl, rfl, rfl, by decide +kernel, rfl, by decide +kernel, by decide +kernel⟩
abbrev s__both_counts : Stmt := top 27
abbrev n__both_counts : List Str := ["thing", "one", "other", "bound", "parts", "going", "part", "found", "with_one", "with_other", "number", "does"]
abbrev p__both_counts : List Str := ["thing", "one", "other"]
theorem sc__both_counts : FnScope n__both_counts p__both_counts (defScope s__both_counts) := ⟨rfl, rfl, rfl, by decide +kernel, rfl, by decide +kernel, by decide +kernel⟩
abbrev s__put_together : Stmt := top 28
abbrev n__put_together : List Str := ["going", "part_counts", "found", "with_one", "with_other", "number", "more_one", "more_other", "many", "sums"]
abbrev p__put_together : List Str := ["going", "part_counts"]
theorem sc__put_together : FnScope n__put_together p__put_together (defScope s__put_together) := ⟨rfl, rfl, rfl, by decide +kernel, rfl, by decide +kernel, by decide +kernel⟩
abbrev s__law_bag : Stmt := top 30
abbrev n__law_bag : List Str := ["_law_script", "_law_great", "_law_mixed_here", "_law_cell"]
abbrev p__law_bag : List Str := ["_law_script"]
theorem sc__law_bag : FnScope n__law_bag p__law_bag (defScope s__law_bag) := ⟨rfl, rfl, rfl, by decide +kernel, rfl, by decide +kernel, by decide +kernel⟩
abbrev s__law_draw : Stmt := top 31
abbrev n__law_draw : List Str := ["_law_bag_here", "_law_many", "_law_digit", "_law_found"]
abbrev p__law_draw : List Str := ["_law_bag_here", "_law_many"]
theorem sc__law_draw : FnScope n__law_draw p__law_draw (defScope s__law_draw) := ⟨rfl, rfl, rfl, by decide +kernel, rfl, by decide +kernel, by decide +kernel⟩
abbrev s__law_pick : Stmt := top 32
abbrev n__law_pick : List Str := ["_law_bag_here", "_law_items"]
abbrev p__law_pick : List Str := ["_law_bag_here", "_law_items"]
theorem sc__law_pick : FnScope n__law_pick p__law_pick (defScope s__law_pick) := ⟨rfl, rfl, rfl, by decide +kernel, rfl, by decide +kernel, by decide +kernel⟩
abbrev s__law_mixed : Stmt := top 33
abbrev n__law_mixed : List Str := ["_law_bag_here", "_law_items", "_law_rest", "_law_found"]
abbrev p__law_mixed : List Str := ["_law_bag_here", "_law_items"]
theorem sc__law_mixed : FnScope n__law_mixed p__law_mixed (defScope s__law_mixed) := ⟨rfl, rfl, rfl, by decide +kernel, rfl, by decide +kernel, by decide +kernel⟩
abbrev s__law_buttons : Stmt := top 34
abbrev n__law_buttons : List Str := ["_law_bag_here", "_law_many", "_law_rest", "_law_found", "_law_turn"]
abbrev p__law_buttons : List Str := ["_law_bag_here", "_law_many"]
theorem sc__law_buttons : FnScope n__law_buttons p__law_buttons (defScope s__law_buttons) := ⟨rfl, rfl, rfl, by decide +kernel, rfl, by decide +kernel, by decide +kernel⟩
abbrev s__law_tree : Stmt := top 35
abbrev n__law_tree : List Str := ["_law_bag_here", "_law_row", "_law_deep", "_law_many", "_law_rest", "_law_found", "_law_turn", "_law_size"]
abbrev p__law_tree : List Str := ["_law_bag_here", "_law_row", "_law_deep"]
theorem sc__law_tree : FnScope n__law_tree p__law_tree (defScope s__law_tree) := ⟨rfl, rfl, rfl, by decide +kernel, rfl, by decide +kernel, by decide +kernel⟩
abbrev s__law_every : Stmt := top 37
abbrev n__law_every : List Str := ["_law_row", "_law_found", "_law_button", "_law_some"]
abbrev p__law_every : List Str := ["_law_row"]
theorem sc__law_every : FnScope n__law_every p__law_every (defScope s__law_every) := ⟨rfl, rfl, rfl, by decide +kernel, rfl, by decide +kernel, by decide +kernel⟩
abbrev s__law_goes : Stmt := top 40
abbrev n__law_goes : List Str := ["_law_tree_here", "_law_some", "_law_part"]
abbrev p__law_goes : List Str := ["_law_tree_here", "_law_some"]
theorem sc__law_goes : FnScope n__law_goes p__law_goes (defScope s__law_goes) := ⟨rfl, rfl, rfl, by decide +kernel, rfl, by decide +kernel, by decide +kernel⟩
abbrev s__law_grown : Stmt := top 41
abbrev n__law_grown : List Str := ["_law_bag_here", "_law_row", "_law_found", "_law_rest", "_law_size", "_law_parts"]
abbrev p__law_grown : List Str := ["_law_bag_here", "_law_row"]
theorem sc__law_grown : FnScope n__law_grown p__law_grown (defScope s__law_grown) := ⟨rfl, rfl, rfl, by decide +kernel, rfl, by decide +kernel, by decide +kernel⟩
abbrev s_law : Stmt := top 42
abbrev n_law : List Str := ["_law_script", "_law_bag_here", "_law_row", "_law_mixed_here", "_law_tree_here", "_law_one", "_law_other", "_law_found", "_law_some", "_law_told", "_law_button"]
abbrev p_law : List Str := ["_law_script"]
theorem sc_law : FnScope n_law p_law (defScope s_law) := ⟨rfl, rfl, rfl, by decide +kernel, rfl, by decide +kernel, by decide +kernel⟩
abbrev s_NoPart__init__ : Stmt := clsAt (top 3) 0
abbrev n_NoPart__init__ : List Str := ["self", "given"]
abbrev p_NoPart__init__ : List Str := ["self", "given"]
theorem sc_NoPart__init__ : FnScope n_NoPart__init__ p_NoPart__init__ (defScope s_NoPart__init__) := ⟨rfl, rfl, rfl, by decide +kernel, rfl, by decide +kernel, by decide +kernel⟩
abbrev s_NoButton__init__ : Stmt := clsAt (top 4) 0
abbrev n_NoButton__init__ : List Str := ["self", "given"]
abbrev p_NoButton__init__ : List Str := ["self", "given"]
theorem sc_NoButton__init__ : FnScope n_NoButton__init__ p_NoButton__init__ (defScope s_NoButton__init__) := ⟨rfl, rfl, rfl, by decide +kernel, rfl, by decide +kernel, by decide +kernel⟩
structure Cd (K : PySem.W.Frag) (mg : Str → Option Value) where
  a__wall : Addr
  d__wall : FuncData
  F__wall : Fun K "_wall" "_wall" s__wall a__wall d__wall
  m__wall : mg "_wall" = some (.ref a__wall)
  b__wall : Binds K d__wall p__wall []
  a_is_integer : Addr
  d_is_integer : FuncData
  F_is_integer : Fun K "is_integer" "is_integer" s_is_integer a_is_integer d_is_integer
  m_is_integer : mg "is_integer" = some (.ref a_is_integer)
  b_is_integer : Binds K d_is_integer p_is_integer []
  a_is_trip : Addr
  d_is_trip : FuncData
  F_is_trip : Fun K "is_trip" "is_trip" s_is_trip a_is_trip d_is_trip
  m_is_trip : mg "is_trip" = some (.ref a_is_trip)
  b_is_trip : Binds K d_is_trip p_is_trip []
  a_least_button : Addr
  d_least_button : FuncData
  F_least_button : Fun K "least_button" "least_button" s_least_button a_least_button d_least_button
  m_least_button : mg "least_button" = some (.ref a_least_button)
  b_least_button : Binds K d_least_button p_least_button []
  a_without_button : Addr
  d_without_button : FuncData
  F_without_button : Fun K "without_button" "without_button" s_without_button a_without_button d_without_button
  m_without_button : mg "without_button" = some (.ref a_without_button)
  b_without_button : Binds K d_without_button p_without_button []
  a_buttons_of : Addr
  d_buttons_of : FuncData
  F_buttons_of : Fun K "buttons_of" "buttons_of" s_buttons_of a_buttons_of d_buttons_of
  m_buttons_of : mg "buttons_of" = some (.ref a_buttons_of)
  b_buttons_of : Binds K d_buttons_of p_buttons_of []
  a_part_at : Addr
  d_part_at : FuncData
  F_part_at : Fun K "part_at" "part_at" s_part_at a_part_at d_part_at
  m_part_at : mg "part_at" = some (.ref a_part_at)
  b_part_at : Binds K d_part_at p_part_at []
  a_way_to : Addr
  d_way_to : FuncData
  F_way_to : Fun K "way_to" "way_to" s_way_to a_way_to d_way_to
  m_way_to : mg "way_to" = some (.ref a_way_to)
  b_way_to : Binds K d_way_to p_way_to []
  a__way_from : Addr
  d__way_from : FuncData
  F__way_from : Fun K "_way_from" "_way_from" s__way_from a__way_from d__way_from
  m__way_from : mg "_way_from" = some (.ref a__way_from)
  b__way_from : Binds K d__way_from p__way_from []
  a_goes : Addr
  d_goes : FuncData
  F_goes : Fun K "goes" "goes" s_goes a_goes d_goes
  m_goes : mg "goes" = some (.ref a_goes)
  b_goes : Binds K d_goes p_goes []
  a_told : Addr
  d_told : FuncData
  F_told : Fun K "told" "told" s_told a_told d_told
  m_told : mg "told" = some (.ref a_told)
  b_told : Binds K d_told p_told []
  a__trip_word : Addr
  d__trip_word : FuncData
  F__trip_word : Fun K "_trip_word" "_trip_word" s__trip_word a__trip_word d__trip_word
  m__trip_word : mg "_trip_word" = some (.ref a__trip_word)
  b__trip_word : Binds K d__trip_word p__trip_word []
  a_no_worse : Addr
  d_no_worse : FuncData
  F_no_worse : Fun K "no_worse" "no_worse" s_no_worse a_no_worse d_no_worse
  m_no_worse : mg "no_worse" = some (.ref a_no_worse)
  b_no_worse : Binds K d_no_worse p_no_worse []
  a_worse_lot : Addr
  d_worse_lot : FuncData
  F_worse_lot : Fun K "worse_lot" "worse_lot" s_worse_lot a_worse_lot d_worse_lot
  m_worse_lot : mg "worse_lot" = some (.ref a_worse_lot)
  b_worse_lot : Binds K d_worse_lot p_worse_lot []
  a__places_alike : Addr
  d__places_alike : FuncData
  F__places_alike : Fun K "_places_alike" "_places_alike" s__places_alike a__places_alike d__places_alike
  m__places_alike : mg "_places_alike" = some (.ref a__places_alike)
  b__places_alike : Binds K d__places_alike p__places_alike []
  a__one_short : Addr
  d__one_short : FuncData
  F__one_short : Fun K "_one_short" "_one_short" s__one_short a__one_short d__one_short
  m__one_short : mg "_one_short" = some (.ref a__one_short)
  b__one_short : Binds K d__one_short p__one_short []
  a__besides : Addr
  d__besides : FuncData
  F__besides : Fun K "_besides" "_besides" s__besides a__besides d__besides
  m__besides : mg "_besides" = some (.ref a__besides)
  b__besides : Binds K d__besides p__besides []
  a_gain : Addr
  d_gain : FuncData
  F_gain : Fun K "gain" "gain" s_gain a_gain d_gain
  m_gain : mg "gain" = some (.ref a_gain)
  b_gain : Binds K d_gain p_gain []
  a__both_counts : Addr
  d__both_counts : FuncData
  F__both_counts : Fun K "_both_counts" "_both_counts" s__both_counts a__both_counts d__both_counts
  m__both_counts : mg "_both_counts" = some (.ref a__both_counts)
  b__both_counts : Binds K d__both_counts p__both_counts []
  a__put_together : Addr
  d__put_together : FuncData
  F__put_together : Fun K "_put_together" "_put_together" s__put_together a__put_together d__put_together
  m__put_together : mg "_put_together" = some (.ref a__put_together)
  b__put_together : Binds K d__put_together p__put_together []
  a__law_bag : Addr
  d__law_bag : FuncData
  F__law_bag : Fun K "_law_bag" "_law_bag" s__law_bag a__law_bag d__law_bag
  m__law_bag : mg "_law_bag" = some (.ref a__law_bag)
  b__law_bag : Binds K d__law_bag p__law_bag []
  a__law_draw : Addr
  d__law_draw : FuncData
  F__law_draw : Fun K "_law_draw" "_law_draw" s__law_draw a__law_draw d__law_draw
  m__law_draw : mg "_law_draw" = some (.ref a__law_draw)
  b__law_draw : Binds K d__law_draw p__law_draw []
  a__law_pick : Addr
  d__law_pick : FuncData
  F__law_pick : Fun K "_law_pick" "_law_pick" s__law_pick a__law_pick d__law_pick
  m__law_pick : mg "_law_pick" = some (.ref a__law_pick)
  b__law_pick : Binds K d__law_pick p__law_pick []
  a__law_mixed : Addr
  d__law_mixed : FuncData
  F__law_mixed : Fun K "_law_mixed" "_law_mixed" s__law_mixed a__law_mixed d__law_mixed
  m__law_mixed : mg "_law_mixed" = some (.ref a__law_mixed)
  b__law_mixed : Binds K d__law_mixed p__law_mixed []
  a__law_buttons : Addr
  d__law_buttons : FuncData
  F__law_buttons : Fun K "_law_buttons" "_law_buttons" s__law_buttons a__law_buttons d__law_buttons
  m__law_buttons : mg "_law_buttons" = some (.ref a__law_buttons)
  b__law_buttons : Binds K d__law_buttons p__law_buttons []
  a__law_tree : Addr
  d__law_tree : FuncData
  F__law_tree : Fun K "_law_tree" "_law_tree" s__law_tree a__law_tree d__law_tree
  m__law_tree : mg "_law_tree" = some (.ref a__law_tree)
  b__law_tree : Binds K d__law_tree p__law_tree []
  a__law_every : Addr
  d__law_every : FuncData
  F__law_every : Fun K "_law_every" "_law_every" s__law_every a__law_every d__law_every
  m__law_every : mg "_law_every" = some (.ref a__law_every)
  b__law_every : Binds K d__law_every p__law_every []
  a__law_goes : Addr
  d__law_goes : FuncData
  F__law_goes : Fun K "_law_goes" "_law_goes" s__law_goes a__law_goes d__law_goes
  m__law_goes : mg "_law_goes" = some (.ref a__law_goes)
  b__law_goes : Binds K d__law_goes p__law_goes []
  a__law_grown : Addr
  d__law_grown : FuncData
  F__law_grown : Fun K "_law_grown" "_law_grown" s__law_grown a__law_grown d__law_grown
  m__law_grown : mg "_law_grown" = some (.ref a__law_grown)
  b__law_grown : Binds K d__law_grown p__law_grown []
  a_law : Addr
  d_law : FuncData
  F_law : Fun K "law" "law" s_law a_law d_law
  m_law : mg "law" = some (.ref a_law)
  b_law : Binds K d_law p_law []
  bz : ∀ (s : Shared) (u : Value), BindsTo s d_law ⟨[u], []⟩ [("_law_script", u)]
  z_abs : mg "abs" = none
  z_bool : mg "bool" = none
  z_enumerate : mg "enumerate" = none
  z_int : mg "int" = none
  z_isinstance : mg "isinstance" = none
  z_len : mg "len" = none
  z_list : mg "list" = none
  z_min : mg "min" = none
  z_range : mg "range" = none
  z_repr : mg "repr" = none
  z_sorted : mg "sorted" = none
  z_tuple : mg "tuple" = none
  c_TripError : Addr
  m_TripError : mg "TripError" = some (.ref c_TripError)
  k_TripError : PySem.W.keepIn K (.ref c_TripError) = true
  xb_TripError : PySem.W.subIn K (.ref c_TripError) (.type "BaseException") = some true
  xt_TripError : PySem.W.typeIn K (.ref c_TripError) = some (.type "type")
  c_NoPart : Addr
  m_NoPart : mg "NoPart" = some (.ref c_NoPart)
  k_NoPart : PySem.W.keepIn K (.ref c_NoPart) = true
  xb_NoPart : PySem.W.subIn K (.ref c_NoPart) (.type "BaseException") = some true
  xt_NoPart : PySem.W.typeIn K (.ref c_NoPart) = some (.type "type")
  c_NoButton : Addr
  m_NoButton : mg "NoButton" = some (.ref c_NoButton)
  k_NoButton : PySem.W.keepIn K (.ref c_NoButton) = true
  xb_NoButton : PySem.W.subIn K (.ref c_NoButton) (.type "BaseException") = some true
  xt_NoButton : PySem.W.typeIn K (.ref c_NoButton) = some (.type "type")
  ec_NoPart : ExcC K c_NoPart
  ec_NoButton : ExcC K c_NoButton
  a_NoPart__init__ : Addr
  d_NoPart__init__ : FuncData
  F_NoPart__init__ : Fun K "__init__" "NoPart.__init__" s_NoPart__init__ a_NoPart__init__ d_NoPart__init__
  b_NoPart__init__ : Binds K d_NoPart__init__ p_NoPart__init__ []
  ox_NoPart : OexC K c_NoPart
  ii_NoPart : PySem.W.findIn K (.ref c_NoPart) "__init__" = some (some (.ref a_NoPart__init__))
  it_NoPart__init__ : PySem.W.typeIn K (.ref a_NoPart__init__) = some (.type "function")
  no_NoPart : PySem.W.findIn K (.ref c_NoPart) "given" = some none
  xf_NoPart : XfC K c_NoPart
  a_NoButton__init__ : Addr
  d_NoButton__init__ : FuncData
  F_NoButton__init__ : Fun K "__init__" "NoButton.__init__" s_NoButton__init__ a_NoButton__init__ d_NoButton__init__
  b_NoButton__init__ : Binds K d_NoButton__init__ p_NoButton__init__ []
  ox_NoButton : OexC K c_NoButton
  ii_NoButton : PySem.W.findIn K (.ref c_NoButton) "__init__" = some (some (.ref a_NoButton__init__))
  it_NoButton__init__ : PySem.W.typeIn K (.ref a_NoButton__init__) = some (.type "function")
  no_NoButton : PySem.W.findIn K (.ref c_NoButton) "given" = some none
  xf_NoButton : XfC K c_NoButton
  cr_TripError : ClX.CRead K c_TripError (.type "type")
  vi_TripError : PySem.W.findCls K (.ref c_TripError) (.type "type") "__init__" = some (.val (.builtin "ValueError.__init__"))
  kt_NoButton_TripError : PySem.W.kitOne K (.ref c_NoButton) (.ref c_TripError) = some true
  e_NoButton_NoButton : PySem.W.exmOne K (.ref c_NoButton) (.ref c_NoButton) = some true
section
variable {P : Program} {w : World} {K : PySem.W.Frag} {mg : Str → Option Value} {base : Heap}
/-! ### the defs over trees -/
def spIsTrip : Sp := fun vs H Q _ => ∃ (v : V) (t : Tr), vs = [v] ∧ At H v t ∧ Q (.bl t.isTrip) H
theorem ok_is_trip (T : Cd K mg) : FnOk P w K mg base CX0 1 T.a_is_trip T.d_is_trip p_is_trip spIsTrip := by
  refine T.F_is_trip.ok sc_is_trip (fun vs H Q E h => ?_) (fun cdv A outer s H vs Q E hr h => ?_)
  · obtain ⟨v, t, rfl, _⟩ := h
    rfl
  obtain ⟨v, t, rfl, hv, q⟩ := h
  refine ⟨_, (pss_one (ps_ret (pe_callB call_isi (by rfl) T.z_isinstance (by decide +kernel) (pa_cons (pv 0) (pa_cons (pe_bltn (v := .ty "tuple") (u := .type "tuple") rfl T.z_tuple (by decide +kernel) rfl) pa_nil))))), ?_⟩
  obtain ⟨ty, h1, h2, h3⟩ := hv.kind (K := K)
  exact ⟨_, rfl, _, _, _, _, _, rfl, .ty "tuple", h1, kit_ty h2, q⟩
/-- a lot as a tuple or a list of ints -/
def Sq (K : PySem.W.Frag) (H : Hp) (q : Addr) (L : List Int) : Prop := SqL K H q (L.map V.int) ∨ SqT K H q (L.map V.int)
theorem Sq.same {H H' : Hp} {q : Addr} {L : List Int} (e : Same H H') (h : Sq K H q L) : Sq K H' q L := by
  rcases h with h | h
  · exact .inl (e.seq h)
  · rcases h with (h | ⟨o, h⟩) | h
    · exact .inr (.inl (.inl (e _ _ h)))
    · exact .inr (.inl (.inr ⟨o, e _ _ h⟩))
    · exact .inr (.inr h)
theorem sqT_same {H H' : Hp} {q : Addr} {xs : List V} (e : Same H H') (h : SqT K H q xs) : SqT K H' q xs := by
  rcases h with (h | ⟨o, h⟩) | h
  · exact .inl (.inl (e _ _ h))
  · exact .inl (.inr ⟨o, e _ _ h⟩)
  · exact .inr h
theorem ne_ints (a b : Int) : (!decide (V.int a = V.int b)) = !decide (a = b) := by
  by_cases h : a = b
  · subst h
    simp
  · have : ¬ V.int a = V.int b := fun q => h (V.int.inj q)
    rw [decide_eq_false h, decide_eq_false this]
theorem get_ints {L : List Int} {i : Nat} {x : V} (h : (L.map V.int)[i]? = some x) : ∃ z, L[i]? = some z ∧ x = .int z := by
  rw [List.getElem?_map] at h
  cases e : L[i]? with
  | none =>
    rw [e] at h
    cases h
  | some z =>
    rw [e] at h
    exact ⟨z, rfl, (Option.some.inj h).symm⟩
/-! ### the law's own defs over trees -/
theorem cnt_le (L : List Int) : ∀ ps : List Tr, Tr.cnt L ps ≤ ps.length
  | [] => by simp [Tr.cnt]
  | p :: r => by
    have := cnt_le L r
    rw [Tr.cnt, List.length_cons]
    split <;> omega
theorem kt_lst {H : Hp} {D : Addr} {xs ys : List V} (h : H D = some (.lst xs)) : KT H (upd H D (.lst ys)) := fun a zs q => by
  rw [upd_ne (ne_of q h (by intro z; cases z))]
  exact q

/-! ### told and contrary, as the code makes them -/
def spLeast : Sp := fun vs H Q _ => ∃ (v : V) (t : Tr), vs = [v] ∧ At H v t ∧ t.ok ∧ Q (.int t.least) H
theorem ok_least_button (T : Cd K mg) : FnOk P w K mg base CX0 2 T.a_least_button T.d_least_button p_least_button spLeast := by
  have G_is_trip : FnOk P w K mg base CX0 1 T.a_is_trip T.d_is_trip p_is_trip spIsTrip := ok_is_trip T
  have nd : (n_least_button : List Str).Nodup := sc_least_button.nd
  refine T.F_least_button.ok sc_least_button (fun vs H Q E h => ?_) (fun cdv A outer s H vs Q E hr h => ?_)
  · obtain ⟨v, t, rfl, _⟩ := h
    rfl
  obtain ⟨v, t, rfl, hv, hok, k⟩ := h
  refine ⟨_, (pss_cons (ps_while PassesOwn.never (pt_val (pe_call G_is_trip (hr.mono (by decide)) rfl T.m_is_trip T.F_is_trip.kp T.b_is_trip .nil pass0 (pa_cons (pv 0) pa_nil)))
        (pss_one (ps_set (i := 0) nd rfl (Or.inl rfl) (pe_ix ix_tup (pe_ix ix_tup (pv 0) pe_int (fun _ _ => rfl)) pe_int (fun _ _ => rfl)))))
      (pss_one (ps_ret (pv 0)))), ?_⟩
  refine ⟨fun m σ H' => ∃ (v' : V) (t' : Tr), σ = [some v'] ∧ H' = H ∧ At H v' t' ∧ t'.ok ∧ m = t'.deep ∧ t'.least = t.least, ⟨_, v, t, rfl, rfl, hv, hok, rfl, rfl⟩, ?_⟩
  rintro m σ H' ⟨v', t', rfl, rfl, hv', hok', rfl, hl⟩
  refine ⟨_, rfl, v', t', rfl, hv', _, rfl, ?_⟩
  cases hv' with
  | b i =>
    refine iteF ⟨_, rfl, ?_⟩
    rw [← hl, Tr.least] at k
    exact k
  | @t a p kk ws ps h1 h2 h3 h4 =>
    rw [Tr.ok] at hok'
    match ws, ps, h3, h2, hok', hl with
    | [], [], _, _, ho, _ => exact absurd ho.2.1 (by simp; omega)
    | w0 :: ws, p0 :: ps, .cons c0 cs, h2, ho, hl =>
      refine iteT ⟨_, fun σ' H2 h => h, ?_⟩
      refine ⟨_, rfl, a, _, 1, .ref p, rfl, rfl, SqT.of h1, rfl, p, _, 0, w0, rfl, rfl, SqT.of h2, at_of (j := 0) rfl rfl, ?_⟩
      rw [Tr.oks] at ho
      refine ⟨_, ?_, w0, p0, rfl, rfl, c0, ho.2.2.1, rfl, ?_⟩
      · rw [Tr.deep, Tr.deeps]
        omega
      · rw [← hl, Tr.least, Tr.leasts]
theorem cons_snoc (ps : List Tr) (p : Tr) : cons (ps ++ [p]) = cons ps ++ [con p] := by rw [cons_eq, cons_eq, List.map_append]; rfl
theorem tells_snoc (ps : List Tr) (p : Tr) : tells (ps ++ [p]) = tells ps ++ [tell p] := by rw [Own.tells_eq, Own.tells_eq, List.map_append]; rfl
def wStr : Wd → Str
  | .one => "one-of"
  | .all => "all-of"
  | .some => "some-of"
theorem wStr_eq (a b : Wd) : decide (V.str (wStr a) = V.str (wStr b)) = decide (a = b) := by
  cases a <;> cases b <;> decide
def spWord : Sp := fun vs H Q _ => ∃ k n : Int, vs = [.int k, .int n] ∧ Q (.str (wStr (wordOf k n))) H
theorem ok__trip_word (T : Cd K mg) : FnOk P w K mg base CX0 1 T.a__trip_word T.d__trip_word p__trip_word spWord := by
  have nd : (n__trip_word : List Str).Nodup := sc__trip_word.nd
  refine T.F__trip_word.ok sc__trip_word (fun vs H Q E h => ?_) (fun cdv A outer s H vs Q E hr h => ?_)
  · obtain ⟨k, n, rfl, _⟩ := h
    rfl
  obtain ⟨k, n, rfl, q⟩ := h
  refine ⟨_, (pss_cons (ps_if (pt_cmpR op_eq (pv 0) pe_int (nomark _)) (pss_one (ps_ret pe_str)) pss_nil)
      (pss_one (ps_ret (pe_ifExp (pt_cmpR op_eq (pv 0) (pv 1) (nomark _)) pe_str pe_str)))), ?_⟩
  refine ⟨_, rfl, rfl, _, rfl, ?_⟩
  unfold wordOf at q
  by_cases h1 : k = 1
  · rw [if_pos h1] at q
    subst h1
    exact iteT q
  · rw [if_neg h1] at q
    have hv : decide (V.int k = V.int 1) = false := decide_eq_false fun z => h1 (V.int.inj z)
    rw [hv]
    refine iteF ⟨_, rfl, _, rfl, rfl, _, rfl, ?_⟩
    by_cases h2 : k = n
    · rw [if_pos h2] at q
      subst h2
      have hv : decide (V.int k = V.int k) = true := decide_eq_true rfl
      rw [hv]
      exact iteT q
    · rw [if_neg h2] at q
      have hv : decide (V.int k = V.int n) = false := decide_eq_false fun z => h2 (V.int.inj z)
      rw [hv]
      exact iteF q

theorem held_len : ∀ {ps : List Tr} {p : Tr}, p ∈ ps → p.held.length ≤ (Tr.helds ps).length
  | [], _, h => nomatch h
  | q :: r, p, h => by
    rw [Tr.helds, List.length_append]
    rcases List.mem_cons.mp h with e | e
    · rw [e]; omega
    · have := held_len (ps := r) e
      omega
def spTold (n : Nat) : Sp := fun vs H Q _ => ∃ (v : V) (t : Tr), vs = [v] ∧ At H v t ∧ t.ok ∧ t.deep < n ∧ t.held.length ≤ 100 ∧ ∀ (v' : V) (H' : Hp), Same H H' → At H' v' (tell t) → Q v' H'
theorem some_word (w : Wd) : (!decide (V.str (wStr w) = V.str "some-of")) = !decide (w = .some) := by cases w <;> decide
theorem all_word (w : Wd) : decide (V.str (wStr w) = V.str "all-of") = decide (w = .all) := by cases w <;> decide
theorem ats_zip {H : Hp} : ∀ {vs : List V} {ts : List Tr}, Ats H vs ts → ∃ cs : List (V × Tr), cs.map Prod.fst = vs ∧ cs.map Prod.snd = ts ∧ ∀ c ∈ cs, At H c.1 c.2
  | _, _, .nil => ⟨[], rfl, rfl, fun c hc => nomatch hc⟩
  | _, _, .cons (v := v) (t := t) a b => by
    obtain ⟨cs, e1, e2, h⟩ := ats_zip b
    refine ⟨(v, t) :: cs, by rw [List.map_cons, e1], by rw [List.map_cons, e2], fun c hc => ?_⟩
    rcases List.mem_cons.mp hc with e | e
    · rw [e]; exact a
    · exact h c e
theorem ats_unzip {H : Hp} : ∀ {cs : List (V × Tr)}, (∀ c ∈ cs, At H c.1 c.2) → Ats H (cs.map Prod.fst) (cs.map Prod.snd)
  | [], _ => .nil
  | c :: cs, h => .cons (h c List.mem_cons_self) (ats_unzip fun d hd => h d (List.mem_cons_of_mem _ hd))
theorem flat_short {w : Wd} {l : List Tr} (h : ∀ p ∈ l, p.ok) : (l.flatMap (gives w)).length ≤ (Tr.helds l).length := by
  rw [← helds_gives w l]
  refine oks_pos _ (oks_all.mpr fun p hp => ?_)
  obtain ⟨q, hq1, hq2⟩ := List.mem_flatMap.mp hp
  exact (gives_ok w (h q hq1)).1 p hq2
theorem helds_take (l : List Tr) (i : Nat) : (Tr.helds (l.take i)).length ≤ (Tr.helds l).length := by
  have : Tr.helds l = Tr.helds (l.take i) ++ Tr.helds (l.drop i) := by
    rw [helds_eq, helds_eq, helds_eq, ← List.flatMap_append, List.take_append_drop]
  rw [this, List.length_append]
  omega
theorem sorted_ats {H : Hp} {cs : List (V × Tr)} (h : ∀ c ∈ cs, At H c.1 c.2) : Ats H (((cs.map fun c => (c.1, c.2.least)).mergeSort fun x y => decide (x.2 ≤ y.2)).map Prod.fst) (sortT (cs.map Prod.snd)) := by
  have e1 : (cs.map fun c => (c.1, c.2.least)).mergeSort (fun x y => decide (x.2 ≤ y.2)) = (cs.mergeSort fun c d => decide (c.2.least ≤ d.2.least)).map fun c => (c.1, c.2.least) := (List.map_mergeSort (f := fun c : V × Tr => (c.1, c.2.least)) (r := fun c d : V × Tr => decide (c.2.least ≤ d.2.least)) (s := fun x y : V × Int => decide (x.2 ≤ y.2)) fun a _ b _ => rfl).symm
  have e2 : sortT (cs.map Prod.snd) = (cs.mergeSort fun c d => decide (c.2.least ≤ d.2.least)).map Prod.snd := (List.map_mergeSort (f := fun c : V × Tr => c.2) (r := fun c d : V × Tr => decide (c.2.least ≤ d.2.least)) (s := fun a b : Tr => decide (a.least ≤ b.least)) fun a _ b _ => rfl).symm
  rw [e1, e2, List.map_map]
  exact ats_unzip fun c hc => h c ((List.mergeSort_perm _ _).mem_iff.mp hc)
theorem ok_told (T : Cd K mg) : ∀ n, FnOk P w K mg base CX0 (n + 6) T.a_told T.d_told p_told (spTold n)
  | 0 => by
    have no : ∀ vs H Q E, ¬ spTold 0 vs H Q E := fun vs H Q E h => by
      obtain ⟨v, t, _, _, _, h, _⟩ := h
      omega
    exact ⟨fun vs H Q E h => absurd h (no vs H Q E), fun A outer s H args us vs Q E _ _ _ _ h => absurd h (no vs H Q E)⟩
  | n + 1 => by
    have G_told : FnOk P w K mg base CX0 (n + 6) T.a_told T.d_told p_told (spTold n) := ok_told T n
    have G_is_trip : FnOk P w K mg base CX0 1 T.a_is_trip T.d_is_trip p_is_trip spIsTrip := ok_is_trip T
    have G__trip_word : FnOk P w K mg base CX0 1 T.a__trip_word T.d__trip_word p__trip_word spWord := ok__trip_word T
    have G_least_button : FnOk P w K mg base CX0 2 T.a_least_button T.d_least_button p_least_button spLeast := ok_least_button T
    have nd : (n_told : List Str).Nodup := sc_told.nd
    refine T.F_told.ok sc_told (fun vs H Q E h => ?_) (fun cdv A outer s H vs Q E hr h => ?_)
    · obtain ⟨v, t, rfl, _⟩ := h
      rfl
    obtain ⟨v, t, rfl, hv, hok, hd, h100, k⟩ := h
    refine ⟨_, (pss_cons (ps_if (pt_not (pt_val (pe_call G_is_trip (hr.mono (by omega)) rfl T.m_is_trip T.F_is_trip.kp T.b_is_trip .nil pass0 (pa_cons (pv 0) pa_nil)))) (pss_one (ps_ret (pv 0))) pss_nil)
      (pss_cons (ps_asg (pv 0) (pg_tup rfl (pgs_cons (pg_name (i := 1) nd rfl (Or.inl rfl)) (pgs_cons (pg_name (i := 2) nd rfl (Or.inl rfl)) pgs_nil))))
      (pss_cons (ps_setLc (i := 3) (own := [("part", 6)]) rfl nd rfl rfl (sw_true rfl rfl rfl (by decide +kernel)) (pi_tup (pv 2)) (blkOk_by (own := [("part", 6)]) (N := n_told) (sc := defScope s_told) (by decide +kernel)) (fun _ _ _ _ _ => (pg_name (i := 6) nd rfl (Or.inl rfl))) (fun _ _ _ _ _ => pts_nil) (fun _ _ _ _ _ => (pe_call G_told (hr.mono (by omega)) rfl T.m_told T.F_told.kp T.b_told .nil pass0 (pa_cons (pv 6) pa_nil))))
      (pss_cons (ps_if (pt_cmpR op_eq (pe_callB call_len_seq (by rfl) T.z_len (by decide +kernel) (pa_cons (pv 3) pa_nil)) pe_int (nomark _)) (pss_one (ps_ret (pe_ix ix_list (pv 3) pe_int (fun _ _ => rfl)))) pss_nil)
      (pss_cons (ps_set (i := 4) nd rfl (Or.inl rfl) (pe_call G__trip_word (hr.mono (by omega)) rfl T.m__trip_word T.F__trip_word.kp T.b__trip_word .nil pass0 (pa_cons (pv 1) (pa_cons (pe_callB call_len_seq (by rfl) T.z_len (by decide +kernel) (pa_cons (pv 3) pa_nil)) pa_nil))))
      (pss_cons (ps_set (i := 5) nd rfl (Or.inl rfl) (pe_lst pa_nil))
      (pss_cons (ps_for PassesOwn.never rfl (pi_list (pv 3)) (pg_name (i := 6) nd rfl (Or.inl rfl))
        (pss_one (ps_if (PW.pt (pw_and (pt_cmpR op_ne (pv 4) pe_str (nomark _)) (pw_and (pt_val (pe_call G_is_trip (hr.mono (by omega)) rfl T.m_is_trip T.F_is_trip.kp T.b_is_trip .nil pass0 (pa_cons (pv 6) pa_nil))) (pw_and1 (pt_cmpR op_eq (pe_call G__trip_word (hr.mono (by omega)) rfl T.m__trip_word T.F__trip_word.kp T.b__trip_word .nil pass0 (pa_cons (pe_ix ix_tup (pv 6) pe_int (fun _ _ => rfl)) (pa_cons (pe_callB call_len_seq (by rfl) T.z_len (by decide +kernel) (pa_cons (pe_ix ix_tup (pv 6) pe_int (fun _ _ => rfl)) pa_nil)) pa_nil))) (pv 4) (nomark _)))))) (pss_one (ps_expr (pe_bm PySem.F.plainAttrs_list PySem.F.slot_list_extend PySem.F.type_list_extend mt_extendT (pv 5) (pa_cons (pe_ix ix_tup (pv 6) pe_int (fun _ _ => rfl)) pa_nil)))) (pss_one (ps_expr (pe_bm PySem.F.plainAttrs_list PySem.F.slot_list_append PySem.F.type_list_append mt_append (pv 5) (pa_cons (pv 6) pa_nil)))))))
      (pss_cons (ps_if (pt_cmpR op_eq (pv 4) pe_str (nomark _)) (pss_one (ps_set (i := 1) nd rfl (Or.inl rfl) (pe_callB call_len_seq (by rfl) T.z_len (by decide +kernel) (pa_cons (pv 5) pa_nil)))) pss_nil)
      (pss_one (ps_ret (pe_tup (pa_cons (pv 1) (pa_cons (pe_callTy (T := "tuple") call_tuple_of (by rfl) T.z_tuple (by decide +kernel) (pa_cons (pe_callBK (cr_sortedF G_least_button (hr.mono (by omega)) T.b_least_button) (by rfl) T.z_sorted (by decide +kernel) (pa_cons (pv 5) pa_nil) (pk_cons (pe_glob (v := .ref T.a_least_button) rfl T.m_least_button rfl) pk_nil)) pa_nil)) pa_nil))))))))))))), ?_⟩
    refine ⟨_, rfl, v, t, rfl, hv, _, rfl, ?_⟩
    cases hv with
    | b i =>
      refine iteT ⟨_, rfl, ?_⟩
      exact k _ H (Same.refl H) (by rw [tell]; exact .b i)
    | @t a p kk ws ps h1 h2 h3 h4 =>
      have hlw := h3.length
      rw [Tr.ok] at hok
      rw [Tr.deep] at hd
      rw [Tr.held] at h100
      obtain ⟨lk1, lk2, lk3⟩ := tells_like ps hok.2.2
      refine iteF ⟨_, rfl, a, _, rfl, SqT.of h1, rfl, _, _, rfl, _, _, rfl, rfl, ?_⟩
      refine ⟨_, rfl, p, rfl, ⟨_, SqT.of h2⟩, fun D hD => ?_⟩
      refine lc_tup (K := K) (a := p) (xs := ws) (fun i H' => Same H H' ∧ ∃ acc, H' D = some (.lst acc) ∧ Ats H' acc (tells (ps.take i))) ?_ ?_ ?_ ?_
      · exact ⟨same_upd _ hD, [], upd_same, by rw [List.take_zero, tells]; exact .nil⟩
      · rintro i H' _ ⟨e, _⟩
        exact SqT.of (e _ _ h2)
      · rintro i x H' hx ⟨e, acc, hacc, hX⟩
        obtain ⟨pt, hpt, hat⟩ := h3.get hx
        have hdp := deep_get hpt
        have hmp := List.mem_of_getElem? hpt
        have hi : i < ws.length := (List.getElem?_eq_some_iff.mp hx).1
        have hal : acc.length ≤ 1000 := by
          have := hX.length
          rw [tells_len, List.length_take] at this
          omega
        have hhl := held_len hmp
        refine ⟨rfl, _, rfl, x, pt, rfl, hat.same e, oks_all.mp hok.2.2 pt hmp, by omega, by omega, fun v' H2 e2 hat2 => ⟨acc, e2 _ _ hacc, Nat.lt_of_le_of_lt hal (by decide), ?_⟩⟩
        refine ⟨same_upd2 _ (e.trans e2) hD, _, upd_same, ?_⟩
        rw [take_snoc hpt, tells_snoc]
        exact ((hX.same e2).append (.cons hat2 .nil)).mono (kt_lst (e2 _ _ hacc))
      · rintro H1 ⟨e1, iv, hiv, hI⟩
        rw [hlw, List.take_length] at hI
        have hil := hI.length
        have htl := tells_len ps
        have hps : ps.length ≤ 1000 := by omega
        refine ⟨_, rfl, D, _, rfl, .inl (SqL.of hiv), rfl, _, rfl, ?_⟩
        by_cases one : iv.length = 1
        · have hv : decide (V.int (iv.length : Int) = V.int 1) = true := decide_eq_true (by rw [one]; rfl)
          rw [hv]
          have onet : (tells ps).length = 1 := by omega
          rw [tell] at k
          match iv, tells ps, hI, one, onet, hiv, k with
          | [x], [q], .cons c0 .nil, _, _, hiv, k => exact iteT ⟨_, rfl, D, _, 0, x, rfl, rfl, SqL.of hiv, at_of (j := 0) rfl rfl, k x H1 e1 c0⟩
        · have hv : decide (V.int (iv.length : Int) = V.int 1) = false := decide_eq_false fun z => one (by have := V.int.inj z; omega)
          rw [hv]
          have hj : fold1 kk (tells ps) = joined kk (tells ps) := fold_ne (by omega)
          refine iteF ⟨_, rfl, _, rfl, D, _, rfl, .inl (SqL.of hiv), kk, _, rfl, (by show 0 ≤ sizeLine; decide), fun S hS => ?_⟩
          have e2 : Same H1 (upd H1 S (.lst [])) := same_upd _ hS
          have hSH := e1.free hS
          rw [hil, htl]
          have hn : (tells ps).length = ps.length := htl
          generalize hw : wordOf kk (ps.length : Int) = wd
          refine ⟨_, rfl, D, rfl, ⟨_, SqL.of (e2 _ _ hiv)⟩, for_list (K := K) (a := D) (xs := iv) (fun i σ H' => ∃ (x6 : Option V) (acc : List V), σ = [some (.ref a), some (.int kk), some (.ref p), some (.ref D), some (.str (wStr wd)), some (.ref S), x6] ∧ Same H1 H' ∧ H' D = some (.lst iv) ∧
            H' S = some (.lst acc) ∧ Ats H' acc (((tells ps).take i).flatMap (gives wd))) ?_ ?_ ?_ ?_⟩
          · exact ⟨none, [], rfl, e2, e2 _ _ hiv, upd_same, by rw [List.take_zero]; exact .nil⟩
          · rintro i σ H' _ ⟨x6, acc, rfl, e, hiv', _⟩
            exact SqL.of hiv'
          · rintro i x σ H' hx ⟨x6, acc, rfl, e, hiv', hS', hX⟩
            obtain ⟨pt, hpt, hat⟩ := hI.get hx
            have hi : i < iv.length := (List.getElem?_eq_some_iff.mp hx).1
            have hmp := List.mem_of_getElem? hpt
            have hpo := lk1 pt hmp
            have hperm := lk2.length_eq
            have hst : ((tells ps).take (i + 1)).flatMap (gives wd) = ((tells ps).take i).flatMap (gives wd) ++ gives wd pt := by
              rw [take_snoc hpt, List.flatMap_append, List.flatMap_cons, List.flatMap_nil, List.append_nil]
            have hal : acc.length ≤ 100 := by
              rw [hX.length]
              have z1 := flat_short (w := wd) (l := (tells ps).take i) fun q hq => lk1 q (List.mem_of_mem_take hq)
              have z2 := helds_take (tells ps) i
              omega
            have nds : D ≠ S := ne_of_none hiv hS
            have fin : ∀ (zs : List V), Ats H' zs (gives wd pt) → Same H1 (upd H' S (.lst (acc ++ zs))) ∧ upd H' S (.lst (acc ++ zs)) D = some (.lst iv) ∧ upd H' S (.lst (acc ++ zs)) S = some (.lst (acc ++ zs)) ∧ Ats (upd H' S (.lst (acc ++ zs))) (acc ++ zs) (((tells ps).take (i + 1)).flatMap (gives wd)) := by
              intro zs hzs
              refine ⟨same_upd2 _ e hS, by rw [upd_ne nds]; exact hiv', upd_same, ?_⟩
              rw [hst]
              exact (hX.append hzs).mono (kt_lst hS')
            have hatn := hat.same e
            have sml : acc.length < sizeLine := Nat.lt_of_le_of_lt (m := 1000) (by omega) (by decide)
            have one1 : gives wd pt = [pt] → Same H1 (upd H' S (.lst (acc ++ [x]))) ∧ upd H' S (.lst (acc ++ [x])) D = some (.lst iv) ∧ upd H' S (.lst (acc ++ [x])) S = some (.lst (acc ++ [x])) ∧ Ats (upd H' S (.lst (acc ++ [x]))) (acc ++ [x]) (((tells ps).take (i + 1)).flatMap (gives wd)) := fun g => fin [x] (by rw [g]; exact .cons hatn .nil)
            refine ⟨_, rfl, rfl, _, rfl, ?_⟩
            rw [some_word]
            by_cases hsome : wd = .some
            · rw [decide_eq_true hsome]
              have g1 : gives wd pt = [pt] := by
                rw [hsome]
                cases pt with
                | b i => rfl
                | t k qs => rw [gives_t, if_neg fun q => q.1 rfl]
              obtain ⟨o1, o2, o3, o4⟩ := one1 g1
              exact iteF (iteF ⟨_, rfl, .inl ⟨rfl, _, SqL.of hS'⟩, _, rfl, S, _, _, rfl, rfl, hS', sml, _, _, rfl, o1, o2, o3, o4⟩)
            · rw [decide_eq_false hsome]
              refine iteT ⟨_, rfl, x, pt, rfl, hatn, _, rfl, ?_⟩
              cases hatn with
              | b i0 =>
                obtain ⟨o1, o2, o3, o4⟩ := one1 rfl
                exact iteF (iteF ⟨_, rfl, .inl ⟨rfl, _, SqL.of hS'⟩, _, rfl, S, _, _, rfl, rfl, hS', sml, _, _, rfl, o1, o2, o3, o4⟩)
              | @t a' p' k' ws' qs g1 g2 g3 g4 =>
                have hlq := g3.length
                refine iteT ⟨_, rfl, a', _, 0, .int k', rfl, rfl, SqT.of g1, rfl, _, rfl, a', _, 1, .ref p', rfl, rfl, SqT.of g1, rfl, p', _, rfl, .inr (SqT.of g2), k', _, rfl, _, rfl, rfl, _, rfl, ?_⟩
                rw [wStr_eq, hlq]
                by_cases hwd : wordOf k' (qs.length : Int) = wd
                · rw [decide_eq_true hwd]
                  have gg : gives wd (.t k' qs) = qs := by rw [gives_t, if_pos ⟨hsome, hwd⟩]
                  obtain ⟨o1, o2, o3, o4⟩ := fin ws' (by rw [gg]; exact g3)
                  exact iteT ⟨_, rfl, .inl ⟨rfl, _, SqL.of hS'⟩, _, rfl, a', _, 1, .ref p', rfl, rfl, SqT.of g1, rfl, S, p', _, _, rfl, rfl, hS', SqT.of g2, Nat.le_trans (m := 2000) (by omega) (by decide), _, _, rfl, o1, o2, o3, o4⟩
                · rw [decide_eq_false hwd]
                  obtain ⟨o1, o2, o3, o4⟩ := one1 (by rw [gives_t, if_neg fun q => hwd q.2])
                  exact iteF ⟨_, rfl, .inl ⟨rfl, _, SqL.of hS'⟩, _, rfl, S, _, _, rfl, rfl, hS', sml, _, _, rfl, o1, o2, o3, o4⟩
          · rintro σ H' ⟨x6, acc, rfl, e, hiv', hS', hX⟩
            rw [hil, List.take_length] at hX
            have hal := hX.length
            have hperm := lk2.length_eq
            have hfl := flat_short (w := wd) lk1
            dsimp only
            refine seq_cut (fun σ H2 => σ = [some (.ref a), some (.int (if wd = .all then (acc.length : Int) else kk)), some (.ref p), some (.ref D), some (.str (wStr wd)), some (.ref S), x6] ∧ H2 = H') (fun N hN => ?_) ?_
            · refine ⟨_, rfl, rfl, _, rfl, ?_⟩
              rw [all_word]
              by_cases hall : wd = .all
              · rw [decide_eq_true hall]
                exact iteT ⟨_, rfl, S, _, rfl, .inl (SqL.of hS'), hN _ _ ⟨by rw [if_pos hall]; rfl, rfl⟩⟩
              · rw [decide_eq_false hall]
                exact iteF (hN _ _ ⟨by rw [if_neg hall], rfl⟩)
            · rintro σ H2 ⟨rfl, rfl⟩
              obtain ⟨cs, c1, c2, c3⟩ := ats_zip hX
              have hflat : ∀ q ∈ (tells ps).flatMap (gives wd), q.ok := fun q hq => by
                obtain ⟨r, hr1, hr2⟩ := List.mem_flatMap.mp hq
                exact (gives_ok wd (lk1 r hr1)).1 q hr2
              refine ⟨_, rfl, _, rfl, S, cs.map fun c => (c.1, c.2.least), rfl, rfl, ?_, fun pr hpr H3 e3 => ?_, fun q H3 hq hq3 e3 => ?_⟩
              · rw [List.map_map]
                have : (Prod.fst ∘ fun c : V × Tr => (c.1, c.2.least)) = Prod.fst := rfl
                rw [this, c1]
                exact SqL.of hS'
              · obtain ⟨c, hc, rfl⟩ := List.mem_map.mp hpr
                exact ⟨c.1, c.2, rfl, (c3 c hc).same e3, hflat _ (by rw [← c2]; exact List.mem_map.mpr ⟨c, hc, rfl⟩), rfl, Same.refl _⟩
              · have hso := sorted_ats fun c hc => (c3 c hc).same e3
                rw [c2] at hso
                generalize hL : ((cs.map fun c => (c.1, c.2.least)).mergeSort fun x y => decide (x.2 ≤ y.2)).map Prod.fst = Lv at hso ⊢
                have e4 : Same H3 (upd H3 q (.lst Lv)) := same_upd _ hq3
                refine ⟨q, _, rfl, .inl ⟨SqL.of upd_same, fun q2 hq2 => ⟨(by show 2 ≤ sizeLine; decide), fun r hr' => ?_⟩⟩⟩
                have e5 := same_upd2 (.tup Lv) e4 (e4.free hq2)
                have e6 := same_upd2 (.tup [.int (if wd = .all then (acc.length : Int) else kk), .ref q2]) e5 (e5.free hr')
                have n2r : q2 ≠ r := ne_of_none upd_same hr'
                refine k _ _ ((e1.trans e).trans (e3.trans e6)) ?_
                rw [tell, hj]
                unfold joined
                rw [hn, hw, ← hal]
                refine .t upd_same (by rw [upd_ne n2r, upd_same]) (hso.same e6) ?_
                rw [hso.length, (sort_perm _).length_eq]
                omega

/-! ### the bag that is drawn from -/
def bagK (g : Addr) (m t : Int) : List (Key × V) := [(.inr "great", .ref g), (.inr "mixed", .int m), (.inr "turn", .int t)]
structure Bag (H : Hp) (b g : Addr) : Prop where
  ex : ∃ (ms : List Int) (m t : Int), H b = some (.dK (bagK g m t)) ∧ H g = some (.lst (ms.map V.int)) ∧ ms.length ≤ 1000
/-- all but the bag is kept -/
def Keep (b g : Addr) (H H' : Hp) : Prop := ∀ a o, a ≠ b → a ≠ g → H a = some o → H' a = some o
theorem Keep.refl (b g : Addr) (H : Hp) : Keep b g H H := fun _ _ _ _ h => h
theorem Keep.trans {b g : Addr} {H H1 H2 : Hp} (x : Keep b g H H1) (y : Keep b g H1 H2) : Keep b g H H2 := fun a o n1 n2 h => y a o n1 n2 (x a o n1 n2 h)
theorem Keep.same {b g : Addr} {H H1 : Hp} (e : Same H H1) : Keep b g H H1 := fun a o _ _ h => e a o h
theorem Keep.new {b g : Addr} {H H1 : Hp} {p : Addr} (o : HO) (x : Keep b g H H1) (h : H1 p = none) : Keep b g H (upd H1 p o) := x.trans (.same (same_upd _ h))
theorem Keep.at_b {b g : Addr} {H H1 : Hp} (o : HO) (x : Keep b g H H1) : Keep b g H (upd H1 b o) := fun a u n1 n2 h => by
  rw [upd_ne n1]
  exact x a u n1 n2 h
theorem Keep.at_g {b g : Addr} {H H1 : Hp} (o : HO) (x : Keep b g H H1) : Keep b g H (upd H1 g o) := fun a u n1 n2 h => by
  rw [upd_ne n2]
  exact x a u n1 n2 h
theorem Bag.ne {H : Hp} {b g : Addr} (B : Bag H b g) : b ≠ g := by
  obtain ⟨ms, m, t, h1, h2, _⟩ := B.ex
  exact ne_of h1 h2 (by intro z; cases z)
theorem Bag.some_b {H : Hp} {b g : Addr} (B : Bag H b g) : ∃ o, H b = some o := by
  obtain ⟨ms, m, t, h1, h2, _⟩ := B.ex
  exact ⟨_, h1⟩
theorem Bag.some_g {H : Hp} {b g : Addr} (B : Bag H b g) : ∃ o, H g = some o := by
  obtain ⟨ms, m, t, h1, h2, _⟩ := B.ex
  exact ⟨_, h2⟩
theorem Bag.off {H : Hp} {b g p : Addr} (B : Bag H b g) (h : H p = none) : p ≠ b ∧ p ≠ g := by
  obtain ⟨o, h1⟩ := B.some_b
  obtain ⟨u, h2⟩ := B.some_g
  exact ⟨(ne_of_none h1 h).symm, (ne_of_none h2 h).symm⟩
theorem Bag.same {H H1 : Hp} {b g : Addr} (B : Bag H b g) (e : Same H H1) : Bag H1 b g := by
  obtain ⟨ms, m, t, h1, h2, h3⟩ := B.ex
  exact ⟨ms, m, t, e _ _ h1, e _ _ h2, h3⟩
theorem Bag.free {H H1 : Hp} {b g p : Addr} (B : Bag H b g) (k : Keep b g H H1) (B1 : Bag H1 b g) (h : H1 p = none) : H p = none := by
  cases q : H p with
  | none => rfl
  | some o =>
    by_cases e1 : p = b
    · obtain ⟨u, z⟩ := B1.some_b
      rw [e1, z] at h
      cases h
    · by_cases e2 : p = g
      · obtain ⟨u, z⟩ := B1.some_g
        rw [e2, z] at h
        cases h
      · rw [k p o e1 e2 q] at h
        cases h
/-- tuples outlast draws -/
theorem Keep.kt {b g : Addr} {H H1 : Hp} (B : Bag H b g) (k : Keep b g H H1) : KT H H1 := fun a xs h => by
  obtain ⟨ms, m, t, h1, h2, _⟩ := B.ex
  exact k a _ (ne_of h h1 (by intro z; cases z)) (ne_of h h2 (by intro z; cases z)) h
theorem dp_ints {K : PySem.W.Frag} {H : Hp} : ∀ ms : List Int, DpAll K H (ms.map V.int) (ms.map PyData.int)
  | [] => .nil
  | m :: ms => .cons (.int m) (dp_ints ms)
theorem lay_ints : ∀ ms : List Int, PyData.canLayAll0 (ms.map PyData.int) = true
  | [] => by simp [PyData.canLayAll0]
  | m :: ms => by simp [PyData.canLayAll0, PyData.canLay0, lay_ints ms]
theorem depth_ints : ∀ ms : List Int, PyData.depthAll (ms.map PyData.int) = 0
  | [] => by simp [PyData.depthAll]
  | m :: ms => by simp [PyData.depthAll, PyData.depth, depth_ints ms]
theorem shaped_ints (ms : List Int) : SeqAt.shaped (.list (ms.map PyData.int)) = true := by
  unfold SeqAt.shaped
  rw [Bool.and_eq_true]
  refine ⟨by rw [PyData.canLay0]; exact lay_ints ms, decide_eq_true ?_⟩
  rw [PyData.depth, depth_ints]
  omega
theorem eqv_nil (ms : List Int) : PyData.eqv (.list (ms.map PyData.int)) (.list []) = decide (ms = []) := by
  cases ms with
  | nil => simp [PyData.eqv, PyData.eqvAll]
  | cons m ms => simp [PyData.eqv, PyData.eqvAll]
theorem shaped_nil : SeqAt.shaped (.list []) = true := shaped_ints []
theorem last_of {ms : List Int} (h : ms ≠ []) : ∃ init z, ms = init ++ [z] := ⟨ms.dropLast, ms.getLast h, (List.dropLast_concat_getLast h).symm⟩
theorem ixN_last (n : Nat) : ixN (n + 1) (-1) = some n := by
  unfold ixN
  rw [if_neg (by omega), if_pos (by omega)]
  congr 1
  omega
theorem set_last (init : List Int) (z y : Int) : ((init ++ [z]).map V.int).set init.length (.int y) = (init ++ [y]).map V.int := by
  rw [List.map_append, List.map_append, List.set_append, if_neg (by simp)]
  simp
def spDraw : Sp := fun vs H Q _ => ∃ (b g : Addr) (many : Int), vs = [.ref b, .int many] ∧ Bag H b g ∧ 1 ≤ many ∧ many < 1000000 ∧
  ∀ (r : Int) (H' : Hp), 0 ≤ r → r < many → Keep b g H H' → Bag H' b g → Q (.int r) H'
theorem ok__law_draw (T : Cd K mg) : FnOk P w K mg base CX0 1 T.a__law_draw T.d__law_draw p__law_draw spDraw := by
  have nd : (n__law_draw : List Str).Nodup := sc__law_draw.nd
  refine T.F__law_draw.ok sc__law_draw (fun vs H Q E h => ?_) (fun cdv A outer s H vs Q E hr h => ?_)
  · obtain ⟨b, g, many, rfl, _⟩ := h
    rfl
  obtain ⟨b, g, many, rfl, B, hm1, hm2, k⟩ := h
  have hu := hu_of hr
  have hu64 := hr.units
  refine ⟨_, (pss_cons (ps_while PassesOwn.never (PW.pt (pw_and (pt_cmpR (op_neD hu64) (pe_dget hu (pv 0) pe_str (fun _ _ => rfl)) (pe_lst pa_nil) (nomark _)) (pw_and1 (pt_cmpR op_eq (pe_ix ix_list (pe_dget hu (pv 0) pe_str (fun _ _ => rfl)) (pe_un un_neg pe_int) (fun _ _ => rfl)) pe_int (nomark _)))))
        (pss_one (ps_expr (pe_bm0 PySem.F.plainAttrs_list PySem.F.slot_list_pop PySem.F.type_list_pop mt_pop (pe_dget hu (pv 0) pe_str (fun _ _ => rfl))))))
      (pss_cons (ps_if (pt_cmpR (op_neD hu64) (pe_dget hu (pv 0) pe_str (fun _ _ => rfl)) (pe_lst pa_nil) (nomark _)) (pss_cons (ps_set (i := 2) nd rfl (Or.inl rfl) (pe_op op_modN (pe_ix ix_list (pe_dget hu (pv 0) pe_str (fun _ _ => rfl)) (pe_un un_neg pe_int) (fun _ _ => rfl)) (pv 1)))
      (pss_cons (ps_asg (pe_op op_fdivN (pe_ix ix_list (pe_dget hu (pv 0) pe_str (fun _ _ => rfl)) (pe_un un_neg pe_int) (fun _ _ => rfl)) (pv 1)) (pg_sub (pe_dget hu (pv 0) pe_str (fun _ _ => rfl)) (pe_un un_neg pe_int) set_list))
      (pss_one (ps_ret (pe_callTy call_int1 (by rfl) T.z_int (by decide +kernel) (pa_cons (pv 2) pa_nil)))))) pss_nil)
      (pss_cons (ps_dput hu (pv 0) pe_str (pe_op op_add (pe_dget hu (pv 0) pe_str (fun _ _ => rfl)) pe_int) rfl)
      (pss_cons (ps_set (i := 3) nd rfl (Or.inl rfl) (pe_op op_mod (pe_callTy call_int1 (by rfl) T.z_int (by decide +kernel) (pa_cons (pe_op op_add (pe_dget hu (pv 0) pe_str (fun _ _ => rfl)) (pe_op op_mul (pe_dget hu (pv 0) pe_str (fun _ _ => rfl)) pe_int)) pa_nil)) pe_int))
      (pss_cons (ps_set (i := 3) nd rfl (Or.inl rfl) (pe_op op_mod (pe_callTy call_int1 (by rfl) T.z_int (by decide +kernel) (pa_cons (pe_op op_add (pe_op op_add (pe_op op_mul (pv 3) (pv 3)) (pe_op op_mul (pe_dget hu (pv 0) pe_str (fun _ _ => rfl)) pe_int)) pe_int) pa_nil)) pe_int))
      (pss_cons (ps_set (i := 3) nd rfl (Or.inl rfl) (pe_op op_mod (pe_callTy call_int1 (by rfl) T.z_int (by decide +kernel) (pa_cons (pe_op op_add (pe_op op_mul (pv 3) (pv 3)) (pe_dget hu (pv 0) pe_str (fun _ _ => rfl))) pa_nil)) pe_int))
      (pss_one (ps_ret (pe_op op_modN (pe_callTy call_int1 (by rfl) T.z_int (by decide +kernel) (pa_cons (pe_op op_fdiv (pv 3) pe_int) pa_nil)) (pv 1)))))))))), ?_⟩
  obtain ⟨ms0, mi, ti, hb, hg, hl⟩ := B.ex
  refine seq_cut (fun σ H' => σ = [some (.ref b), some (.int many), none, none] ∧ Keep b g H H' ∧ ∃ ms : List Int, H' b = some (.dK (bagK g mi ti)) ∧ H' g = some (.lst (ms.map V.int)) ∧ ms.length ≤ 1000) (fun N hN => ?_) ?_
  · -- the noughts are taken off
    refine ⟨fun m σ H' => σ = [some (.ref b), some (.int many), none, none] ∧ Keep b g H H' ∧ ∃ ms : List Int, m = ms.length ∧ H' b = some (.dK (bagK g mi ti)) ∧ H' g = some (.lst (ms.map V.int)) ∧ ms.length ≤ 1000,
      ⟨_, rfl, Keep.refl _ _ _, ms0, rfl, hb, hg, hl⟩, ?_⟩
    rintro m σ H' ⟨rfl, kp, ms, rfl, hb', hg', hl'⟩
    refine ⟨_, rfl, b, _, rfl, DGet.k (k := .inr "great") hb', (by show 0 ≤ sizeLine; decide), fun p hp => ?_⟩
    have e1 : Same H' (upd H' p (.lst [])) := same_upd _ hp
    refine ⟨_, _, .lst (SqL.of (e1 _ _ hg')) (dp_ints ms), .lst (SqL.of upd_same) .nil, shaped_ints ms, shaped_nil, _, rfl, ?_⟩
    rw [eqv_nil]
    by_cases hn : ms = []
    · rw [decide_eq_true hn]
      exact iteF (hN _ _ ⟨rfl, kp.new _ hp, ms, e1 _ _ hb', e1 _ _ hg', hl'⟩)
    · rw [decide_eq_false hn]
      obtain ⟨init, z, rfl⟩ := last_of hn
      refine iteT ?_
      refine ⟨_, rfl, b, _, rfl, DGet.k (k := .inr "great") (e1 _ _ hb'), _, rfl, g, _, _, _, rfl, rfl, SqL.of (e1 _ _ hg'), (by rw [List.map_append]; exact atI_last _ _), rfl, _, rfl, ?_⟩
      by_cases hz : z = 0
      · subst hz
        refine iteT ⟨fun σ' H2 => σ' = [some (.ref b), some (.int many), none, none] ∧ Keep b g H H2 ∧ H2 b = some (.dK (bagK g mi ti)) ∧ H2 g = some (.lst (init.map V.int)) ∧ init.length ≤ 1000, ?_, ?_⟩
        · rintro σ' H2 ⟨rfl, k2, b2, g2, l2⟩
          exact ⟨init.length, by rw [List.length_append]; simp, rfl, k2, init, rfl, b2, g2, l2⟩
        · refine ⟨_, rfl, b, _, rfl, DGet.k (k := .inr "great") (e1 _ _ hb'), .inl ⟨rfl, _, SqL.of (e1 _ _ hg')⟩, g, _, .int 0, rfl, rfl, e1 _ _ hg', ?_, rfl, (kp.new _ hp).at_g _, ?_, ?_, ?_⟩
          · rw [List.map_append]
            simp
          · rw [upd_ne B.ne]
            exact e1 _ _ hb'
          · rw [upd_same, List.map_append, List.map_singleton, List.dropLast_concat]
          · rw [List.length_append] at hl'
            omega
      · have hzv : decide (V.int z = V.int 0) = false := decide_eq_false fun q => hz (V.int.inj q)
        rw [hzv]
        exact iteF (hN _ _ ⟨rfl, kp.new _ hp, _, e1 _ _ hb', e1 _ _ hg', hl'⟩)
  · rintro σ H' ⟨rfl, kp, ms, hb', hg', hl'⟩
    refine ⟨_, rfl, b, _, rfl, DGet.k (k := .inr "great") hb', (by show 0 ≤ sizeLine; decide), fun p hp => ?_⟩
    have e1 : Same H' (upd H' p (.lst [])) := same_upd _ hp
    have k1 := kp.new (.lst []) hp
    refine ⟨_, _, .lst (SqL.of (e1 _ _ hg')) (dp_ints ms), .lst (SqL.of upd_same) .nil, shaped_ints ms, shaped_nil, _, rfl, ?_⟩
    rw [eqv_nil]
    have hb1 := e1 _ _ hb'
    have hg1 := e1 _ _ hg'
    generalize hH1 : upd H' p (.lst []) = H1 at hb1 hg1 k1 e1 ⊢
    by_cases hn : ms = []
    · rw [decide_eq_true hn]
      refine iteF ?_
      refine ⟨_, rfl, b, _, rfl, DGet.k (k := .inr "turn") hb1, _, _, rfl, rfl, _, rfl, b, _, rfl, DPut.k (k := .inr "turn") hb1 (by show 3 < sizeLine; decide), ?_⟩
      have hb2 : upd H1 b (.dK (putK (bagK g mi ti) (.inr "turn") (.int (ti + 1)))) b = some (.dK (bagK g mi (ti + 1))) := upd_same
      have hg2 : upd H1 b (.dK (putK (bagK g mi ti) (.inr "turn") (.int (ti + 1)))) g = some (.lst (ms.map V.int)) := by rw [upd_ne B.ne.symm]; exact hg1
      have k2 := k1.at_b (.dK (putK (bagK g mi ti) (.inr "turn") (.int (ti + 1))))
      generalize upd H1 b (.dK (putK (bagK g mi ti) (.inr "turn") (.int (ti + 1)))) = H2 at hb2 hg2 k2 ⊢
      refine ⟨_, rfl, b, _, rfl, DGet.k (k := .inr "mixed") hb2, _, rfl, b, _, rfl, DGet.k (k := .inr "turn") hb2, _, _, rfl, rfl, .inr ⟨by decide, by decide⟩, _, _, rfl, rfl, .inl ⟨_, rfl, _, _, rfl, rfl, (by show (0 : Int) < 2147483399; decide), ?_⟩⟩
      generalize hf : (mi + (ti + 1) * 40692) % 2147483399 = f1
      have f1a : 0 ≤ f1 ∧ f1 < 2147483399 := by rw [← hf]; exact ⟨Int.emod_nonneg _ (by decide), Int.emod_lt_of_pos _ (by decide)⟩
      refine ⟨_, rfl, _, rfl, _, _, rfl, rfl, .inl ⟨by omega, by omega⟩, _, rfl, b, _, rfl, DGet.k (k := .inr "turn") hb2, _, _, rfl, rfl, .inr ⟨by decide, by decide⟩, _, _, rfl, rfl, _, _, rfl, rfl, .inl ⟨_, rfl, _, _, rfl, rfl, (by show (0 : Int) < 2147483647; decide), ?_⟩⟩
      generalize hf2 : (f1 * f1 + (ti + 1) * 69621 + 5) % 2147483647 = f2
      have f2a : 0 ≤ f2 ∧ f2 < 2147483647 := by rw [← hf2]; exact ⟨Int.emod_nonneg _ (by decide), Int.emod_lt_of_pos _ (by decide)⟩
      refine ⟨_, rfl, _, rfl, _, _, rfl, rfl, .inl ⟨by omega, by omega⟩, _, rfl, b, _, rfl, DGet.k (k := .inr "mixed") hb2, _, _, rfl, rfl, .inl ⟨_, rfl, _, _, rfl, rfl, (by show (0 : Int) < 2147483629; decide), ?_⟩⟩
      generalize hf3 : (f2 * f2 + mi) % 2147483629 = f3
      refine ⟨_, rfl, _, _, rfl, rfl, ⟨by decide, by decide⟩, .inl ⟨_, rfl, _, rfl, _, _, rfl, rfl, by omega, ?_⟩⟩
      exact k _ H2 (Int.fmod_nonneg_of_pos _ (by omega)) (Int.fmod_lt_of_pos _ (by omega)) k2 ⟨ms, mi, ti + 1, hb2, hg2, hl'⟩
    · rw [decide_eq_false hn]
      obtain ⟨init, z, rfl⟩ := last_of hn
      refine iteT ?_
      refine ⟨_, rfl, b, _, rfl, DGet.k (k := .inr "great") hb1, _, rfl, g, _, _, _, rfl, rfl, SqL.of hg1, (by rw [List.map_append]; exact atI_last _ _), _, rfl, _, _, rfl, rfl, by omega, ?_⟩
      refine ⟨_, rfl, b, _, rfl, DGet.k (k := .inr "great") hb1, _, rfl, g, _, _, _, rfl, rfl, SqL.of hg1, (by rw [List.map_append]; exact atI_last _ _), _, rfl, _, _, rfl, rfl, ⟨by omega, by omega⟩, ?_⟩
      refine ⟨_, rfl, b, _, rfl, DGet.k (k := .inr "great") hb1, _, rfl, g, _, _, init.length, rfl, rfl, hg1, ?_, ?_⟩
      · rw [List.length_map, List.length_append]
        exact ixN_last _
      · refine ⟨_, rfl, .inl ⟨_, rfl, ?_⟩⟩
        refine k _ _ (Int.fmod_nonneg_of_pos _ (by omega)) (Int.fmod_lt_of_pos _ (by omega)) (k1.at_g _) ⟨init ++ [z.fdiv many], mi, ti, ?_, ?_, ?_⟩
        · rw [upd_ne B.ne]
          exact hb1
        · rw [upd_same, set_last]
        · rw [List.length_append] at hl' ⊢
          exact hl'

/-! ### the bag is filled -/
def spBag (K : PySem.W.Frag) : Sp := fun vs H Q _ => ∃ (a : Addr) (ns : List Int), vs = [.ref a] ∧ SqL K H a (ns.map V.int) ∧ ns.length ≤ 1000 ∧ ∀ (b g : Addr) (H' : Hp), Same H H' → H b = none → H g = none → Bag H' b g → Q (.ref b) H'
theorem ok__law_bag (T : Cd K mg) : FnOk P w K mg base CX0 1 T.a__law_bag T.d__law_bag p__law_bag (spBag K) := by
  have nd : (n__law_bag : List Str).Nodup := sc__law_bag.nd
  refine T.F__law_bag.ok sc__law_bag (fun vs H Q E h => ?_) (fun cdv A outer s H vs Q E hr h => ?_)
  · obtain ⟨a, ns, rfl, _⟩ := h
    rfl
  obtain ⟨a, ns, rfl, hS, hl, k⟩ := h
  have hu := hu_of hr
  refine ⟨_, (pss_cons (ps_par (i := 1) (j := 2) (by rfl) nd rfl rfl (by decide) rfl rfl (pa_cons (pe_lst pa_nil) (pa_cons (pe_op op_add pe_int (pe_callB call_len_seq (by rfl) T.z_len (by decide +kernel) (pa_cons (pv 0) pa_nil))) pa_nil)) (by rfl))
      (pss_cons (ps_for PassesOwn.never rfl (pi_list (pe_slice sl_list (pv 0) po_none (po_some pe_int))) (pg_name (i := 3) nd rfl (Or.inl rfl))
        (pss_cons (ps_set (i := 2) nd rfl (Or.inl rfl) (pe_op op_mod (pe_callTy call_int1 (by rfl) T.z_int (by decide +kernel) (pa_cons (pe_op op_add (pe_op op_mul (pv 2) pe_int) (pv 3)) pa_nil)) pe_int))
      (pss_one (ps_if (pt_cmpR op_gt (pe_callB call_abs (by rfl) T.z_abs (by decide +kernel) (pa_cons (pv 3) pa_nil)) (pe_op op_pow pe_int pe_int) (nomark _)) (pss_one (ps_expr (pe_bm PySem.F.plainAttrs_list PySem.F.slot_list_append PySem.F.type_list_append mt_append (pv 1) (pa_cons (pe_op op_add (pe_op op_mul pe_int (pe_callB call_abs (by rfl) T.z_abs (by decide +kernel) (pa_cons (pv 3) pa_nil))) (pe_callTy call_int1 (by rfl) T.z_int (by decide +kernel) (pa_cons (pe_cmpR op_lt (pv 3) pe_int (nomark _)) pa_nil))) pa_nil)))) pss_nil))))
      (pss_one (ps_ret (pe_disp (pps_cons pe_str (pv 1) (pps_cons pe_str (pv 2) (pps_cons pe_str pe_int pps_nil))) (by rfl) (by rfl) (fun z => by cases z) (by decide)))))), ?_⟩
  refine ⟨(by show 0 ≤ sizeLine; decide), fun g hg => ?_⟩
  have e1 : Same H (upd H g (.lst [])) := same_upd _ hg
  refine ⟨_, rfl, a, _, rfl, .inl (e1.seq hS), _, _, rfl, rfl, _, _, rfl, ?_⟩
  obtain ⟨ls, hls, hll⟩ := cut_ints ns none (some 60)
  refine ⟨_, rfl, _, rfl, a, _, rfl, e1.seq hS, fun p hp => ?_⟩
  have e2 : Same H (upd (upd H g (.lst [])) p (.lst (cutV (ns.map V.int) none (some 60)))) := same_upd2 _ e1 (e1.free hp)
  refine ⟨p, rfl, ⟨_, SqL.of upd_same⟩, for_list (K := K) (a := p) (xs := ls.map V.int) (fun i σ H' => ∃ (m : Int) (x3 : Option V) (ms : List Int), σ = [some (.ref a), some (.ref g), some (.int m), x3] ∧ Same H H' ∧ H' p = some (.lst (ls.map V.int)) ∧
    H' g = some (.lst (ms.map V.int)) ∧ ms.length ≤ i) ?_ ?_ ?_ ?_⟩
  · refine ⟨_, none, [], rfl, e2, by rw [upd_same, hls], ?_, Nat.zero_le _⟩
    rw [upd_ne (ne_of_none upd_same hp), upd_same]
    rfl
  · rintro i σ H' _ ⟨m, x3, ms, rfl, e, h1, _⟩
    exact SqL.of h1
  · rintro i x σ H' hx ⟨m, x3, ms, rfl, e, h1, h2, h3⟩
    obtain ⟨z, hz, rfl⟩ := get_ints hx
    have hi : i < ls.length := (List.getElem?_eq_some_iff.mp hz).1
    have ngp : g ≠ p := by
      intro q
      rw [q, upd_same] at hp
      cases hp
    refine ⟨_, rfl, _, _, rfl, rfl, .inr ⟨by decide, by decide⟩, _, rfl, _, _, rfl, rfl, .inl ⟨_, rfl, _, _, rfl, rfl, (by show (0 : Int) < 2147483647; decide), ?_⟩⟩
    refine ⟨_, rfl, _, rfl, _, _, rfl, rfl, ⟨by decide, by decide, by decide⟩, _, _, rfl, rfl, _, rfl, ?_⟩
    refine ite2 (fun _ => ?_) (fun _ => ?_)
    · refine ⟨_, rfl, .inl ⟨rfl, _, SqL.of h2⟩, _, rfl, _, rfl, _, _, rfl, rfl, .inl ⟨by decide, by decide⟩, _, rfl, _, _, rfl, rfl, .inr ⟨_, rfl, _, _, rfl, rfl, g, _, _, rfl, rfl, h2, ?_, ?_⟩⟩
      · rw [List.length_map]
        exact Nat.lt_of_le_of_lt (m := 1000) (by omega) (by decide)
      · refine ⟨_, _, ms ++ [(2 * if z < 0 then -z else z) + (if decide (z < 0) = true then 1 else 0)], rfl, same_upd2 _ e hg, ?_, ?_, ?_⟩
        · rw [upd_ne ngp.symm]
          exact h1
        · rw [upd_same, List.map_append]
          rfl
        · rw [List.length_append, List.length_singleton]
          omega
    · exact ⟨_, _, ms, rfl, e, h1, h2, by omega⟩
  · rintro σ H' ⟨m, x3, ms, rfl, e, h1, h2, h3⟩
    intro d hd
    refine ⟨_, rfl, _, rfl, upd_same, bagK g m 0, rfl, (by show 3 ≤ 15; decide), ?_⟩
    refine k d g _ ?_ (e.free hd) hg ⟨ms, m, 0, upd_same, ?_, ?_⟩
    · intro c o hc
      have n1 : c ≠ d := ne_of_none (e _ _ hc) hd
      rw [upd_ne n1, upd_ne n1]
      exact e _ _ hc
    · have n2 : g ≠ d := ne_of_none h2 hd
      rw [upd_ne n2, upd_ne n2]
      exact h2
    · rw [List.length_map] at h3
      omega
/-! ### things are picked -/
def spPick : Sp := fun vs H Q _ => ∃ (b g l : Addr) (xs : List V), vs = [.ref b, .ref l] ∧ Bag H b g ∧ H l = some (.lst xs) ∧ l ≠ g ∧ xs ≠ [] ∧ xs.length < 1000000 ∧ ∀ (x : V) (H' : Hp), x ∈ xs → Keep b g H H' → Bag H' b g → Q x H'
theorem Bag.ne_lst {H : Hp} {b g l : Addr} {xs : List V} (B : Bag H b g) (h : H l = some (.lst xs)) : l ≠ b := by
  obtain ⟨ms, m, t, h1, h2, _⟩ := B.ex
  exact ne_of h h1 (by intro z; cases z)
theorem ok__law_pick (T : Cd K mg) : FnOk P w K mg base CX0 2 T.a__law_pick T.d__law_pick p__law_pick spPick := by
  have nd : (n__law_pick : List Str).Nodup := sc__law_pick.nd
  have G__law_draw : FnOk P w K mg base CX0 1 T.a__law_draw T.d__law_draw p__law_draw spDraw := ok__law_draw T
  refine T.F__law_pick.ok sc__law_pick (fun vs H Q E h => ?_) (fun cdv A outer s H vs Q E hr h => ?_)
  · obtain ⟨b, g, l, xs, rfl, _⟩ := h
    rfl
  obtain ⟨b, g, l, xs, rfl, B, hl, hlg, hne, hlen, k⟩ := h
  refine ⟨_, (pss_one (ps_ret (pe_ix ix_list (pv 1) (pe_call G__law_draw (hr.mono (by decide)) rfl T.m__law_draw T.F__law_draw.kp T.b__law_draw .nil pass0 (pa_cons (pv 0) (pa_cons (pe_callB call_len_seq (by rfl) T.z_len (by decide +kernel) (pa_cons (pv 1) pa_nil)) pa_nil))) (fun _ _ => rfl)))), ?_⟩
  have hpos : 0 < xs.length := List.length_pos_iff.mpr hne
  refine ⟨_, rfl, _, rfl, _, rfl, l, _, rfl, .inl (SqL.of hl), b, g, _, rfl, B, by omega, by omega, fun r H' r0 r1 kp B' => ?_⟩
  have hx : xs[r.toNat]? = some xs[r.toNat] := List.getElem?_eq_getElem (by omega)
  refine ⟨l, xs, r, _, rfl, rfl, SqL.of (kp l _ (B.ne_lst hl) hlg hl), at_of (j := r.toNat) (by omega) hx, k _ H' (List.getElem_mem _) kp B'⟩
/-! ### mixed orders -/
theorem seqIndex_of {r : Int} {n : Nat} (h0 : 0 ≤ r) (h1 : r < n) : seqIndex? r n = some r.toNat := by
  have no : ¬ r < 0 := by omega
  unfold seqIndex?
  simp [no, h0, h1]
theorem erase_ints : ∀ (R : List Int) (k : Nat), (R.map V.int).eraseIdx k = (R.eraseIdx k).map V.int
  | [], _ => rfl
  | _ :: _, 0 => rfl
  | a :: R, k + 1 => by
    rw [List.map_cons, List.eraseIdx_cons_succ, List.eraseIdx_cons_succ, List.map_cons, erase_ints R k]
theorem erase_perm : ∀ {R : List Int} {k : Nat} {z : Int}, R[k]? = some z → (z :: R.eraseIdx k).Perm R
  | [], _, _, h => by simp at h
  | a :: R, 0, z, h => by
    have e : a = z := Option.some.inj h
    subst e
    exact List.Perm.refl _
  | a :: R, k + 1, z, h => by
    have ih := erase_perm (R := R) (k := k) (z := z) (by simpa using h)
    rw [List.eraseIdx_cons_succ]
    exact (List.Perm.swap a z _).trans (ih.cons a)
theorem perm_step {F R L : List Int} {k : Nat} {z : Int} (h : (F ++ R).Perm L) (hz : R[k]? = some z) : ((F ++ [z]) ++ R.eraseIdx k).Perm L := by
  rw [List.append_assoc]
  exact (List.Perm.append_left F (erase_perm hz)).trans h
def spMixed : Sp := fun vs H Q _ => ∃ (b g l : Addr) (L : List Int), vs = [.ref b, .ref l] ∧ Bag H b g ∧ H l = some (.lst (L.map V.int)) ∧ L.length ≤ 1000 ∧
  ∀ (p : Addr) (M : List Int) (H' : Hp), M.Perm L → Keep b g H H' → Bag H' b g → H p = none → H' p = some (.lst (M.map V.int)) → Q (.ref p) H'
theorem ok__law_mixed (T : Cd K mg) : FnOk P w K mg base CX0 2 T.a__law_mixed T.d__law_mixed p__law_mixed spMixed := by
  have nd : (n__law_mixed : List Str).Nodup := sc__law_mixed.nd
  have G__law_draw : FnOk P w K mg base CX0 1 T.a__law_draw T.d__law_draw p__law_draw spDraw := ok__law_draw T
  refine T.F__law_mixed.ok sc__law_mixed (fun vs H Q E h => ?_) (fun cdv A outer s H vs Q E hr h => ?_)
  · obtain ⟨b, g, l, L, rfl, _⟩ := h
    rfl
  obtain ⟨b, g, l, L, rfl, B, hl, hlen, k⟩ := h
  have hu64 := hr.units
  refine ⟨_, (pss_cons (ps_par (i := 2) (j := 3) (by rfl) nd rfl rfl (by decide) rfl rfl (pa_cons (pe_callTy call_list_of (by rfl) T.z_list (by decide +kernel) (pa_cons (pv 1) pa_nil)) (pa_cons (pe_lst pa_nil) pa_nil)) (by rfl))
      (pss_cons (ps_while PassesOwn.never (pt_cmpR (op_neD hu64) (pv 2) (pe_lst pa_nil) (nomark _))
        (pss_one (ps_expr (pe_bm PySem.F.plainAttrs_list PySem.F.slot_list_append PySem.F.type_list_append mt_append (pv 3) (pa_cons (pe_bm PySem.F.plainAttrs_list PySem.F.slot_list_pop PySem.F.type_list_pop mt_popAt (pv 2) (pa_cons (pe_call G__law_draw (hr.mono (by decide)) rfl T.m__law_draw T.F__law_draw.kp T.b__law_draw .nil pass0 (pa_cons (pv 0) (pa_cons (pe_callB call_len_seq (by rfl) T.z_len (by decide +kernel) (pa_cons (pv 2) pa_nil)) pa_nil))) pa_nil)) pa_nil)))))
      (pss_one (ps_ret (pv 3))))), ?_⟩
  refine ⟨_, rfl, l, _, rfl, .inl (SqL.of hl), fun q hq => ⟨(by show 0 ≤ sizeLine; decide), fun f hf => ⟨_, _, rfl, ?_⟩⟩⟩
  have e1 : Same H (upd H q (.lst (L.map V.int))) := same_upd _ hq
  have e2 : Same H (upd (upd H q (.lst (L.map V.int))) f (.lst [])) := same_upd2 _ e1 (e1.free hf)
  have hfH := e1.free hf
  have nfq : q ≠ f := ne_of_none upd_same hf
  have oq := B.off hq
  have of' := B.off hfH
  refine ⟨fun m σ H' => ∃ R F : List Int, σ = [some (.ref b), some (.ref l), some (.ref q), some (.ref f)] ∧ Keep b g H H' ∧ Bag H' b g ∧ m = R.length ∧ (F ++ R).Perm L ∧ H' q = some (.lst (R.map V.int)) ∧ H' f = some (.lst (F.map V.int)),
    ⟨_, L, [], rfl, .same e2, B.same e2, rfl, List.Perm.refl _, by rw [upd_ne nfq, upd_same], upd_same⟩, ?_⟩
  rintro m σ H' ⟨R, F, rfl, kp, B', rfl, hperm, hR, hF⟩
  have hsz : F.length + R.length = L.length := by rw [← List.length_append]; exact hperm.length_eq
  refine ⟨_, rfl, (by show 0 ≤ sizeLine; decide), fun p hp => ?_⟩
  have e3 : Same H' (upd H' p (.lst [])) := same_upd _ hp
  refine ⟨_, _, .lst (SqL.of (e3 _ _ hR)) (dp_ints R), .lst (SqL.of upd_same) .nil, shaped_ints R, shaped_nil, _, rfl, ?_⟩
  rw [eqv_nil]
  by_cases hn : R = []
  · rw [decide_eq_true hn]
    subst hn
    rw [List.append_nil] at hperm
    exact iteF ⟨_, rfl, k f F _ hperm (kp.new _ hp) (B'.same e3) hfH (e3 _ _ hF)⟩
  · rw [decide_eq_false hn]
    have hpos : 0 < R.length := List.length_pos_iff.mpr hn
    refine iteT ⟨fun σ' H2 => ∃ R' F' : List Int, σ' = [some (.ref b), some (.ref l), some (.ref q), some (.ref f)] ∧ Keep b g H H2 ∧ Bag H2 b g ∧ R'.length < R.length ∧ (F' ++ R').Perm L ∧ H2 q = some (.lst (R'.map V.int)) ∧ H2 f = some (.lst (F'.map V.int)), ?_, ?_⟩
    · rintro σ' H2 ⟨R', F', rfl, k2, B2, hl2, hp2, h1, h2⟩
      exact ⟨_, hl2, R', F', rfl, k2, B2, rfl, hp2, h1, h2⟩
    · have B3 := B'.same e3
      refine ⟨_, rfl, .inl ⟨rfl, _, SqL.of (e3 _ _ hF)⟩, _, rfl, .inl ⟨rfl, _, SqL.of (e3 _ _ hR)⟩, _, rfl, _, rfl, q, _, rfl, .inl (SqL.of (e3 _ _ hR)), b, g, _, rfl, B3, ?_, ?_, fun r H4 r0 r1 k4 B4 => ?_⟩
      · rw [List.length_map]
        omega
      · rw [List.length_map]
        omega
      rw [List.length_map] at r1
      have q4 := k4 q _ oq.1 oq.2 (e3 _ _ hR)
      have f4 := k4 f _ of'.1 of'.2 (e3 _ _ hF)
      have hz : R[r.toNat]? = some R[r.toNat] := List.getElem?_eq_getElem (by omega)
      refine ⟨q, _, r, r.toNat, .int R[r.toNat], rfl, rfl, q4, by omega, by omega, ?_, ?_, f, F.map V.int, _, rfl, rfl, ?_, ?_, ?_⟩
      · rw [List.length_map]
        exact seqIndex_of r0 r1
      · rw [List.getElem?_map, hz]
        rfl
      · rw [upd_ne nfq.symm]
        exact f4
      · rw [List.length_map]
        exact Nat.lt_of_le_of_lt (m := 1000) (by omega) (by decide)
      · have kk : Keep b g H (upd (upd H4 q (.lst ((R.map V.int).eraseIdx r.toNat))) f (.lst (F.map V.int ++ [.int R[r.toNat]]))) := by
          intro c o n1 n2 hc
          rw [upd_ne (ne_of_none hc hfH), upd_ne (ne_of_none hc hq)]
          exact (kp.trans ((Keep.same e3).trans k4)) c o n1 n2 hc
        have BB : Bag (upd (upd H4 q (.lst ((R.map V.int).eraseIdx r.toNat))) f (.lst (F.map V.int ++ [.int R[r.toNat]]))) b g := by
          obtain ⟨ms, m, t, h1, h2, h3⟩ := B4.ex
          exact ⟨ms, m, t, by rw [upd_ne of'.1.symm, upd_ne oq.1.symm]; exact h1, by rw [upd_ne of'.2.symm, upd_ne oq.2.symm]; exact h2, h3⟩
        refine ⟨R.eraseIdx r.toNat, F ++ [R[r.toNat]], rfl, kk, BB, ?_, perm_step hperm hz, ?_, ?_⟩
        · rw [List.length_eraseIdx_of_lt (by omega)]
          omega
        · rw [upd_ne nfq, upd_same, erase_ints]
        · rw [upd_same, List.map_append]
          rfl

/-! ### buttons -/
def rl (n : Int) : List Int := (List.range (n - 0).toNat).map fun i => (0 : Int) + ((i : Nat) : Int)
theorem rl_is (n : Int) : rgV 0 n = (rl n).map V.int := by
  unfold rgV rl
  rw [List.map_map]
  rfl
theorem rl_len (n : Int) : (rl n).length = n.toNat := by
  unfold rl
  rw [List.length_map, List.length_range]
  omega
theorem rl_mem {n x : Int} (h : x ∈ rl n) : 0 ≤ x ∧ x < n := by
  unfold rl at h
  obtain ⟨i, hi, rfl⟩ := List.mem_map.mp h
  have := List.mem_range.mp hi
  omega
theorem rl_nodup (n : Int) : (rl n).Nodup := by
  unfold rl
  refine List.Pairwise.map _ ?_ (List.nodup_range (n := (n - 0).toNat))
  intro a b h z
  exact h (by omega)
theorem less_of {L : List Int} (h : L.Pairwise (· ≤ ·)) (n : L.Nodup) : L.Pairwise (· < ·) := by
  have := List.Pairwise.and h n
  exact this.imp fun ⟨a, b⟩ => by omega
def spButtons : Sp := fun vs H Q _ => ∃ (b g : Addr) (many : Int), vs = [.ref b, .int many] ∧ Bag H b g ∧ 1 ≤ many ∧ many ≤ 60 ∧
  ∀ (p : Addr) (M : List Int) (H' : Hp), M.length = many.toNat → M.Pairwise (· < ·) → (∀ x ∈ M, 0 ≤ x ∧ x < 100) → Keep b g H H' → Bag H' b g → H p = none → H' p = some (.lst (M.map V.int)) → Q (.ref p) H'
theorem ok__law_buttons (T : Cd K mg) : FnOk P w K mg base CX0 2 T.a__law_buttons T.d__law_buttons p__law_buttons spButtons := by
  have nd : (n__law_buttons : List Str).Nodup := sc__law_buttons.nd
  have G__law_draw : FnOk P w K mg base CX0 1 T.a__law_draw T.d__law_draw p__law_draw spDraw := ok__law_draw T
  refine T.F__law_buttons.ok sc__law_buttons (fun vs H Q E h => ?_) (fun cdv A outer s H vs Q E hr h => ?_)
  · obtain ⟨b, g, many, rfl, _⟩ := h
    rfl
  obtain ⟨b, g, many, rfl, B, hm1, hm2, k⟩ := h
  refine ⟨_, (pss_cons (ps_par (i := 2) (j := 3) (by rfl) nd rfl rfl (by decide) rfl rfl (pa_cons (pe_listRg rfl rfl T.z_list (prg_1 rfl T.z_range (pe_ifExp (pt_cmpR op_eq (pe_call G__law_draw (hr.mono (by decide)) rfl T.m__law_draw T.F__law_draw.kp T.b__law_draw .nil pass0 (pa_cons (pv 0) (pa_cons pe_int pa_nil))) pe_int (nomark _)) pe_int (pe_op op_add (pv 1) pe_int)))) (pa_cons (pe_lst pa_nil) pa_nil)) (by rfl))
      (pss_cons (ps_for PassesOwn.never rfl (pi_range1 rfl T.z_range (pa_cons (pv 1) pa_nil)) (pg_name (i := 4) nd rfl (Or.inl rfl))
        (pss_one (ps_expr (pe_bm PySem.F.plainAttrs_list PySem.F.slot_list_append PySem.F.type_list_append mt_append (pv 3) (pa_cons (pe_bm PySem.F.plainAttrs_list PySem.F.slot_list_pop PySem.F.type_list_pop mt_popAt (pv 2) (pa_cons (pe_call G__law_draw (hr.mono (by decide)) rfl T.m__law_draw T.F__law_draw.kp T.b__law_draw .nil pass0 (pa_cons (pv 0) (pa_cons (pe_callB call_len_seq (by rfl) T.z_len (by decide +kernel) (pa_cons (pv 2) pa_nil)) pa_nil))) pa_nil)) pa_nil)))))
      (pss_one (ps_ret (pe_callB cr_sorted (by rfl) T.z_sorted (by decide +kernel) (pa_cons (pv 3) pa_nil)))))), ?_⟩
  refine seq_cut (fun σ H' => ∃ (q f : Addr) (n : Int), σ = [some (.ref b), some (.int many), some (.ref q), some (.ref f), none] ∧ Keep b g H H' ∧ Bag H' b g ∧ many + 2 ≤ n ∧ n ≤ 100 ∧ H q = none ∧ H f = none ∧ q ≠ f ∧
    H' q = some (.lst ((rl n).map V.int)) ∧ H' f = some (.lst [])) (fun N hN => ?_) ?_
  · have fin : ∀ (n : Int) (H1 : Hp), many + 2 ≤ n → n ≤ 100 → Keep b g H H1 → Bag H1 b g → ∀ q, H1 q = none → ∀ f, (upd H1 q (.lst (rgV 0 n))) f = none →
        N [some (.ref b), some (.int many), some (.ref q), some (.ref f), none] (upd (upd H1 q (.lst (rgV 0 n))) f (.lst [])) := by
      intro n H1 h1 h2 kp B1 q hq f hf
      have e1 : Same H1 (upd H1 q (.lst (rgV 0 n))) := same_upd _ hq
      have nfq : q ≠ f := ne_of_none upd_same hf
      refine hN _ _ ⟨q, f, n, rfl, (kp.new _ hq).new _ hf, (B1.same e1).same (same_upd _ hf), h1, h2, B.free kp B1 hq, B.free kp B1 (e1.free hf), nfq, ?_, upd_same⟩
      rw [upd_ne nfq, upd_same, rl_is]
    refine ⟨_, rfl, b, g, 4, rfl, B, by decide, by decide, fun r H1 r0 r1 kp B1 => ?_⟩
    refine ⟨rfl, _, rfl, ?_⟩
    refine ite2 (fun _ => ?_) (fun _ => ?_)
    · refine ⟨100, rfl, .of_le (by decide) (by decide) (by decide) (by decide), fun q hq => ⟨(by show 0 ≤ sizeLine; decide), fun f hf => ⟨_, _, rfl, fin 100 H1 (by omega) (by omega) kp B1 q hq f hf⟩⟩⟩
    · refine ⟨_, rfl, _, _, rfl, rfl, many + 2, rfl, .of_le (by decide) (by omega) (by decide) (by omega), fun q hq => ⟨(by show 0 ≤ sizeLine; decide), fun f hf => ⟨_, _, rfl, fin (many + 2) H1 (by omega) (by omega) kp B1 q hq f hf⟩⟩⟩
  · rintro σ H1 ⟨q, f, n, rfl, kp, B1, h1, h2, hq, hf, nqf, q1, f1⟩
    have oq := B.off hq
    have of' := B.off hf
    refine ⟨_, rfl, many, rfl, by omega, by omega, for_range (lo := 0) (n := many.toNat) (fun i σ H' => ∃ (R F : List Int) (x4 : Option V), σ = [some (.ref b), some (.int many), some (.ref q), some (.ref f), x4] ∧ Keep b g H H' ∧ Bag H' b g ∧
      F.length = i ∧ R.length + i = n.toNat ∧ (F ++ R).Nodup ∧ (∀ x ∈ F, 0 ≤ x ∧ x < 100) ∧ (∀ x ∈ R, 0 ≤ x ∧ x < 100) ∧ H' q = some (.lst (R.map V.int)) ∧ H' f = some (.lst (F.map V.int))) ?_ ?_ ?_⟩
    · refine ⟨rl n, [], none, rfl, kp, B1, rfl, by rw [rl_len]; rfl, rl_nodup n, fun x hx => (nomatch hx), fun x hx => ?_, q1, f1⟩
      have := rl_mem hx
      omega
    · rintro i σ H' hi ⟨R, F, x4, rfl, kp', B', hF, hR, hnd, mF, mR, q', f'⟩
      have hpos : 0 < R.length := by omega
      refine ⟨_, rfl, .inl ⟨rfl, _, SqL.of f'⟩, _, rfl, .inl ⟨rfl, _, SqL.of q'⟩, _, rfl, _, rfl, q, _, rfl, .inl (SqL.of q'), b, g, _, rfl, B', ?_, ?_, fun r H4 r0 r1 k4 B4 => ?_⟩
      · rw [List.length_map]
        omega
      · rw [List.length_map]
        omega
      rw [List.length_map] at r1
      have q4 := k4 q _ oq.1 oq.2 q'
      have f4 := k4 f _ of'.1 of'.2 f'
      have hz : R[r.toNat]? = some R[r.toNat] := List.getElem?_eq_getElem (by omega)
      have hmem : R[r.toNat] ∈ R := List.getElem_mem _
      refine ⟨q, _, r, r.toNat, .int R[r.toNat], rfl, rfl, q4, by omega, by omega, ?_, ?_, f, F.map V.int, _, rfl, rfl, ?_, ?_, ?_⟩
      · rw [List.length_map]
        exact seqIndex_of r0 r1
      · rw [List.getElem?_map, hz]
        rfl
      · rw [upd_ne nqf.symm]
        exact f4
      · rw [List.length_map]
        exact Nat.lt_of_le_of_lt (m := 1000) (by omega) (by decide)
      · have kk : Keep b g H (upd (upd H4 q (.lst ((R.map V.int).eraseIdx r.toNat))) f (.lst (F.map V.int ++ [.int R[r.toNat]]))) := by
          intro c o n1 n2 hc
          rw [upd_ne (ne_of_none hc hf), upd_ne (ne_of_none hc hq)]
          exact (kp'.trans k4) c o n1 n2 hc
        have BB : Bag (upd (upd H4 q (.lst ((R.map V.int).eraseIdx r.toNat))) f (.lst (F.map V.int ++ [.int R[r.toNat]]))) b g := by
          obtain ⟨ms, m, t, h1, h2, h3⟩ := B4.ex
          exact ⟨ms, m, t, by rw [upd_ne of'.1.symm, upd_ne oq.1.symm]; exact h1, by rw [upd_ne of'.2.symm, upd_ne oq.2.symm]; exact h2, h3⟩
        refine ⟨R.eraseIdx r.toNat, F ++ [R[r.toNat]], _, rfl, kk, BB, ?_, ?_, (perm_step (List.Perm.refl _) hz).nodup_iff.mpr hnd, fun x hx => ?_, fun x hx => mR x (List.mem_of_mem_eraseIdx hx), ?_, ?_⟩
        · rw [List.length_append, hF]
          rfl
        · rw [List.length_eraseIdx_of_lt (by omega)]
          omega
        · rcases List.mem_append.mp hx with hx | hx
          · exact mF x hx
          · rw [List.mem_singleton.mp hx]
            exact mR _ hmem
        · rw [upd_ne nqf, upd_same, erase_ints]
        · rw [upd_same, List.map_append]
          rfl
    · rintro σ H' ⟨R, F, x4, rfl, kp', B', hF, hR, hnd, mF, mR, q', f'⟩
      refine ⟨_, rfl, f, F, rfl, SqL.of f', by omega, fun M p hperm hsort hp => ?_⟩
      refine k p M _ (by rw [hperm.length_eq, hF]) (less_of hsort (hperm.nodup_iff.mpr (List.nodup_append.mp hnd).1)) (fun x hx => mF x (hperm.mem_iff.mp hx)) (kp'.new _ hp) (B'.same (same_upd _ hp)) (B.free kp' B' hp) upd_same

/-! ### trees are drawn -/
def spTree (n : Nat) : Sp := fun vs H Q _ => ∃ (b g l : Addr) (d : Int) (R : List Int), vs = [.ref b, .ref l, .int d] ∧ Bag H b g ∧ H l = some (.lst (R.map V.int)) ∧ l ≠ g ∧ R ≠ [] ∧ R.length ≤ 100 ∧ 0 ≤ d ∧ d < n ∧
  ∀ (v : V) (t : Tr) (H' : Hp), At H' v t → t.held = R → t.deep ≤ d.toNat + 1 → t.ok → Keep b g H H' → Bag H' b g → Q v H'
theorem flat_at {H : Hp} : ∀ R : List Int, Ats H (R.map V.int) (R.map Tr.b)
  | [] => .nil
  | x :: R => .cons (.b x) (flat_at R)
theorem flat_helds : ∀ R : List Int, Tr.helds (R.map Tr.b) = R
  | [] => by simp [Tr.helds]
  | x :: R => by simp [Tr.helds, Tr.held, flat_helds R]
theorem flat_deeps : ∀ R : List Int, Tr.deeps (R.map Tr.b) = 0
  | [] => by simp [Tr.deeps]
  | x :: R => by simp [Tr.deeps, Tr.deep, flat_deeps R]
theorem flat_oks : ∀ R : List Int, Tr.oks (R.map Tr.b)
  | [] => by rw [List.map_nil, Tr.oks]; trivial
  | x :: R => by rw [List.map_cons, Tr.oks, Tr.ok]; exact ⟨trivial, flat_oks R⟩
theorem ok__law_tree (T : Cd K mg) : ∀ n, FnOk P w K mg base CX0 (n + 3) T.a__law_tree T.d__law_tree p__law_tree (spTree n)
  | 0 => by
    have no : ∀ vs H Q E, ¬ spTree 0 vs H Q E := fun vs H Q E h => by
      obtain ⟨b, g, l, d, R, _, _, _, _, _, _, h0, h, _⟩ := h
      omega
    exact ⟨fun vs H Q E h => absurd h (no vs H Q E), fun A outer s H args us vs Q E _ _ _ _ h => absurd h (no vs H Q E)⟩
  | n + 1 => by
    have G__law_tree : FnOk P w K mg base CX0 (n + 3) T.a__law_tree T.d__law_tree p__law_tree (spTree n) := ok__law_tree T n
    have G__law_draw : FnOk P w K mg base CX0 1 T.a__law_draw T.d__law_draw p__law_draw spDraw := ok__law_draw T
    have G__law_pick : FnOk P w K mg base CX0 2 T.a__law_pick T.d__law_pick p__law_pick spPick := ok__law_pick T
    have nd : (n__law_tree : List Str).Nodup := sc__law_tree.nd
    refine T.F__law_tree.ok sc__law_tree (fun vs H Q E h => ?_) (fun cdv A outer s H vs Q E hr h => ?_)
    · obtain ⟨b, g, l, d, R, rfl, _⟩ := h
      rfl
    obtain ⟨b, g, l, d, R, rfl, B, hl, hlg, hne, hRl, hd0, hd1, k⟩ := h
    have hpos : 0 < R.length := List.length_pos_iff.mpr hne
    have hlb := B.ne_lst hl
    refine ⟨_, (pss_cons (ps_if (PW.pt (pw_or (pt_cmpR op_eq (pv 2) pe_int (nomark _)) (pw_or1 (PW.pt (pw_and (pt_cmpR op_eq (pe_callB call_len_seq (by rfl) T.z_len (by decide +kernel) (pa_cons (pv 1) pa_nil)) pe_int (nomark _)) (pw_and1 (pt_cmpR op_gt (pe_call G__law_draw (hr.mono (by omega)) rfl T.m__law_draw T.F__law_draw.kp T.b__law_draw .nil pass0 (pa_cons (pv 0) (pa_cons pe_int pa_nil))) pe_int (nomark _)))))))) (pss_one (ps_ret (pe_ifExp (pt_cmpR op_eq (pe_callB call_len_seq (by rfl) T.z_len (by decide +kernel) (pa_cons (pv 1) pa_nil)) pe_int (nomark _)) (pe_ix ix_list (pv 1) pe_int (fun _ _ => rfl)) (pe_tup (pa_cons (pe_op op_add pe_int (pe_call G__law_draw (hr.mono (by omega)) rfl T.m__law_draw T.F__law_draw.kp T.b__law_draw .nil pass0 (pa_cons (pv 0) (pa_cons (pe_callB call_len_seq (by rfl) T.z_len (by decide +kernel) (pa_cons (pv 1) pa_nil)) pa_nil)))) (pa_cons (pe_callTy (T := "tuple") call_tuple_of (by rfl) T.z_tuple (by decide +kernel) (pa_cons (pv 1) pa_nil)) pa_nil)))))) pss_nil)
      (pss_cons (ps_par3 (i := 3) (j := 4) (l := 5) (by rfl) nd rfl rfl rfl (by decide) (by decide) (by decide) rfl rfl rfl (pa_cons (pe_callB (call_min2 rfl) (by rfl) T.z_min (by decide +kernel) (pa_cons (pe_callB call_len_seq (by rfl) T.z_len (by decide +kernel) (pa_cons (pv 1) pa_nil)) (pa_cons (pe_call G__law_pick (hr.mono (by omega)) rfl T.m__law_pick T.F__law_pick.kp T.b__law_pick .nil pass0 (pa_cons (pv 0) (pa_cons (pe_lst (pa_cons pe_int (pa_cons pe_int (pa_cons pe_int (pa_cons pe_int (pa_cons pe_int (pa_cons pe_int (pa_cons pe_int pa_nil)))))))) pa_nil))) pa_nil))) (pa_cons (pe_callTy call_list_of (by rfl) T.z_list (by decide +kernel) (pa_cons (pv 1) pa_nil)) (pa_cons (pe_lst pa_nil) pa_nil))) (by rfl))
      (pss_cons (ps_for PassesOwn.never rfl (pi_range1 rfl T.z_range (pa_cons (pv 3) pa_nil)) (pg_name (i := 6) nd rfl (Or.inl rfl))
        (pss_cons (ps_set (i := 7) nd rfl (Or.inl rfl) (pe_ifExp (pt_cmpR op_eq (pv 6) (pe_op op_sub (pv 3) pe_int) (nomark _)) (pe_callB call_len_seq (by rfl) T.z_len (by decide +kernel) (pa_cons (pv 4) pa_nil)) (pe_op op_add pe_int (pe_call G__law_draw (hr.mono (by omega)) rfl T.m__law_draw T.F__law_draw.kp T.b__law_draw .nil pass0 (pa_cons (pv 0) (pa_cons (pe_op op_add (pe_op op_add (pe_op op_sub (pe_callB call_len_seq (by rfl) T.z_len (by decide +kernel) (pa_cons (pv 4) pa_nil)) (pv 3)) (pv 6)) pe_int) pa_nil))))))
      (pss_cons (ps_expr (pe_bm PySem.F.plainAttrs_list PySem.F.slot_list_append PySem.F.type_list_append mt_append (pv 5) (pa_cons (pe_call G__law_tree (hr.mono (by omega)) rfl T.m__law_tree T.F__law_tree.kp T.b__law_tree .nil pass0 (pa_cons (pv 0) (pa_cons (pe_slice sl_list (pv 4) po_none (po_some (pv 7))) (pa_cons (pe_op op_sub (pv 2) pe_int) pa_nil)))) pa_nil)))
      (pss_one (ps_set (i := 4) nd rfl (Or.inl rfl) (pe_slice sl_list (pv 4) (po_some (pv 7)) po_none))))))
      (pss_one (ps_ret (pe_tup (pa_cons (pe_op op_add pe_int (pe_call G__law_draw (hr.mono (by omega)) rfl T.m__law_draw T.F__law_draw.kp T.b__law_draw .nil pass0 (pa_cons (pv 0) (pa_cons (pv 3) pa_nil)))) (pa_cons (pe_callTy (T := "tuple") call_tuple_of (by rfl) T.z_tuple (by decide +kernel) (pa_cons (pv 5) pa_nil)) pa_nil)))))))), ?_⟩
    refine seq_cut (fun σ H' => σ = [some (.ref b), some (.ref l), some (.int d), none, none, none, none, none] ∧ Keep b g H H' ∧ Bag H' b g ∧ d ≠ 0) (fun N hN => ?_) ?_
    · refine if_cut (fun c H' => Keep b g H H' ∧ Bag H' b g ∧ (c = false → d ≠ 0)) (fun Q' hQ => ?_) ?_ ?_
      · refine ⟨_, rfl, rfl, _, rfl, ?_⟩
        by_cases hd : d = 0
        · subst hd
          exact iteT (hQ true H ⟨Keep.refl _ _ _, B, fun z => nomatch z⟩)
        · have hdv : decide (V.int d = V.int 0) = false := decide_eq_false fun q => hd (V.int.inj q)
          rw [hdv]
          refine iteF ?_
          refine ⟨_, rfl, l, _, rfl, .inl (SqL.of hl), rfl, _, rfl, ?_⟩
          refine ite2 (fun _ => ?_) (fun _ => hQ _ H ⟨Keep.refl _ _ _, B, fun _ => hd⟩)
          exact ⟨_, rfl, b, g, 5, rfl, B, by decide, by decide, fun r H1 r0 r1 kp B1 => ⟨_, _, rfl, rfl, _, rfl, hQ _ H1 ⟨kp, B1, fun _ => hd⟩⟩⟩
      · rintro H1 ⟨kp, B1, _⟩
        have hl1 := kp l _ hlb hlg hl
        refine ⟨_, rfl, l, _, rfl, .inl (SqL.of hl1), rfl, _, rfl, ?_⟩
        refine ite2 (fun hc => ?_) (fun _ => ?_)
        · have hc' : ((R.map V.int).length : Int) = 1 := V.int.inj (of_decide_eq_true hc)
          rw [List.length_map] at hc'
          obtain ⟨x, rfl⟩ : ∃ x, R = [x] := by
            match R, hc' with
            | [x], _ => exact ⟨x, rfl⟩
            | [], h => simp at h
            | a :: c :: r, h => simp at h; omega
          refine ⟨_, rfl, l, _, 0, .int x, rfl, rfl, SqL.of hl1, rfl, ?_⟩
          exact k _ (.b x) H1 (.b x) (by rw [Tr.held]) (by rw [Tr.deep]; omega) (by rw [Tr.ok]; trivial) kp B1
        · refine ⟨_, rfl, _, rfl, l, _, rfl, .inl (SqL.of hl1), b, g, _, rfl, B1, ?_, ?_, fun r H2 r0 r1 k2 B2 => ⟨_, _, rfl, rfl, ?_⟩⟩
          · rw [List.length_map]
            omega
          · rw [List.length_map]
            omega
          have hl2 := k2 l _ hlb hlg hl1
          rw [List.length_map] at r1
          refine ⟨_, rfl, l, _, rfl, .inl ⟨SqL.of hl2, fun p hp => ⟨(by show 2 ≤ sizeLine; decide), fun a ha => ?_⟩⟩⟩
          have npa : p ≠ a := ne_of_none upd_same ha
          have ha2 : H2 a = none := (same_upd _ hp).free ha
          refine k _ (.t (1 + r) (R.map Tr.b)) _ (.t upd_same (by rw [upd_ne npa, upd_same]) (flat_at R) (by rw [List.length_map]; omega)) (by rw [Tr.held, flat_helds]) (by rw [Tr.deep, flat_deeps]; omega) (by rw [Tr.ok]; exact ⟨by omega, by rw [List.length_map]; omega, flat_oks R⟩) ?_ ?_
          · exact ((kp.trans k2).new _ hp).new _ ha
          · exact (B2.same (same_upd _ hp)).same (same_upd _ ha)
      · rintro H1 ⟨kp, B1, hd⟩
        exact hN _ _ ⟨rfl, kp, B1, hd rfl⟩
    · rintro σ H1 ⟨rfl, kp1, B1, hd⟩
      have hl1 := kp1 l _ hlb hlg hl
      -- how many parts; the rest; what is found
      refine ⟨_, rfl, l, _, rfl, .inl (SqL.of hl1), _, rfl, (by show 7 ≤ sizeLine; decide), fun z hz => ?_⟩
      have oz := B1.off hz
      refine ⟨b, g, z, _, rfl, B1.same (same_upd _ hz), upd_same, oz.2, by simp, by decide, fun x H2 hx k2 B2 => ?_⟩
      obtain ⟨c, rfl, hc0, hc1⟩ : ∃ c : Int, x = .int c ∧ 1 ≤ c ∧ c ≤ 5 := by
        simp only [List.mem_cons, List.not_mem_nil, or_false] at hx
        rcases hx with rfl | rfl | rfl | rfl | rfl | rfl | rfl <;> exact ⟨_, rfl, by decide, by decide⟩
      have kp2 : Keep b g H H2 := (kp1.new _ hz).trans k2
      have hl2 := kp2 l _ hlb hlg hl
      refine ⟨_, _, rfl, _, rfl, l, _, rfl, .inl (SqL.of hl2), fun q hq => ⟨(by show 0 ≤ sizeLine; decide), fun f hf => ⟨_, _, _, rfl, ?_⟩⟩⟩
      rw [List.length_map]
      generalize hmany : (if c < (R.length : Int) then c else (R.length : Int)) = many
      have hm1 : 1 ≤ many ∧ many ≤ 5 ∧ many ≤ R.length := by
        rw [← hmany]
        split <;> omega
      have nqf : q ≠ f := ne_of_none upd_same hf
      have e3 : Same H2 (upd H2 q (.lst (R.map V.int))) := same_upd _ hq
      have hfH2 := e3.free hf
      have e4 : Same H2 (upd (upd H2 q (.lst (R.map V.int))) f (.lst [])) := same_upd2 _ e3 hfH2
      have hfH : H f = none := B.free kp2 B2 hfH2
      have of' := B.off hfH
      have oq := B2.off hq
      refine ⟨_, rfl, many, rfl, by omega, by omega, for_range (lo := 0) (n := many.toNat) (fun i σ H' => ∃ (r : Addr) (R' : List Int) (ws : List V) (ts : List Tr) (x6 x7 : Option V),
        σ = [some (.ref b), some (.ref l), some (.int d), some (.int many), some (.ref r), some (.ref f), x6, x7] ∧ Keep b g H H' ∧ Bag H' b g ∧ H' r = some (.lst (R'.map V.int)) ∧ r ≠ g ∧ r ≠ f ∧ H' f = some (.lst ws) ∧ Ats H' ws ts ∧
        Tr.helds ts ++ R' = R ∧ many - (i : Int) ≤ R'.length ∧ ((i : Int) = many → R' = []) ∧ ws.length = i ∧ Tr.deeps ts ≤ d.toNat ∧ Tr.oks ts) ?_ ?_ ?_⟩
      · refine ⟨q, R, [], [], none, none, rfl, kp2.trans (.same e4), B2.same e4, by rw [upd_ne nqf, upd_same], oq.2, nqf, upd_same, .nil, by rw [Tr.helds, List.nil_append], by omega, by omega, rfl, by rw [Tr.deeps]; omega, by rw [Tr.oks]; trivial⟩
      · rintro i σ H' hi ⟨r, R', ws, ts, x6, x7, rfl, kp, B', hr', hrg, hrf, hf', hats, hheld, hlen, hend, hws, hdp, hoks⟩
        have hR'R : R'.length ≤ R.length := by rw [← hheld, List.length_append]; omega
        have hrb := B'.ne_lst hr'
        -- the size
        refine seq_cut (fun σ H3 => ∃ size : Int, σ = [some (.ref b), some (.ref l), some (.int d), some (.int many), some (.ref r), some (.ref f), some (.int (0 + (i : Int))), some (.int size)] ∧ Keep b g H' H3 ∧ Bag H3 b g ∧
          1 ≤ size ∧ size ≤ R'.length ∧ many - (i : Int) - 1 ≤ (R'.length : Int) - size ∧ ((i : Int) + 1 = many → size = R'.length)) (fun N hN => ?_) ?_
        · refine ifExp_cut (fun c H3 => H3 = H' ∧ c = decide ((i : Int) + 1 = many)) (fun Q' hQ => ?_) ?_ ?_
          · refine ⟨_, rfl, _, rfl, _, _, rfl, rfl, rfl, _, rfl, hQ _ _ ⟨rfl, ?_⟩⟩
            by_cases h : (i : Int) + 1 = many
            · rw [decide_eq_true h]
              exact decide_eq_true (by congr 1; omega)
            · rw [decide_eq_false h]
              exact decide_eq_false fun q => h (by have := V.int.inj q; omega)
          · rintro H3 ⟨rfl, hc⟩
            have hc' : (i : Int) + 1 = many := of_decide_eq_true hc.symm
            refine ⟨_, rfl, r, _, rfl, .inl (SqL.of hr'), ?_⟩
            rw [List.length_map]
            exact hN _ _ ⟨_, rfl, Keep.refl _ _ _, B', by omega, by omega, by omega, fun _ => rfl⟩
          · rintro H3 ⟨rfl, hc⟩
            have hc' : ¬ (i : Int) + 1 = many := of_decide_eq_false hc.symm
            refine ⟨_, rfl, _, rfl, r, _, rfl, .inl (SqL.of hr'), _, rfl, _, _, rfl, rfl, _, rfl, _, _, rfl, rfl, _, _, rfl, rfl, b, g, _, rfl, B', ?_, ?_, fun u H4 u0 u1 k4 B4 => ⟨_, _, rfl, rfl, ?_⟩⟩
            · rw [List.length_map]
              omega
            · rw [List.length_map]
              omega
            rw [List.length_map] at u1
            exact hN _ _ ⟨1 + u, rfl, k4, B4, by omega, by omega, by omega, fun h => absurd h hc'⟩
        · rintro σ H3 ⟨size, rfl, k3, B3, hs0, hs1, hs2, hs3⟩
          have hr3 := k3 r _ hrb hrg hr'
          have hf3 := k3 f _ of'.1 of'.2 hf'
          have hats3 := hats.mono (k3.kt B')
          -- found.append(tree(bag, rest[:size], deep - 1))
          refine ⟨_, rfl, .inl ⟨rfl, _, SqL.of hf3⟩, _, rfl, _, rfl, _, rfl, _, rfl, r, _, rfl, SqL.of hr3, fun p2 hp2 => ⟨_, rfl, _, _, rfl, rfl, ?_⟩⟩
          have ht : cutV (R'.map V.int) none (some size) = (R'.take size.toNat).map V.int := by
            rw [cut_to (by omega) (by rw [List.length_map]; omega), List.map_take]
          rw [ht]
          have o2 := B3.off hp2
          have hll : (R'.take size.toNat).length = size.toNat := by rw [List.length_take]; omega
          refine ⟨b, g, p2, d - 1, _, rfl, B3.same (same_upd _ hp2), upd_same, o2.2, ?_, by omega, by omega, by omega, fun v t H4 hat hh hdeep hok k4 B4 => ?_⟩
          · exact List.ne_nil_of_length_pos (by omega)
          have k34 : Keep b g H3 H4 := (Keep.same (same_upd _ hp2)).trans k4
          have hf4 := k34 f _ of'.1 of'.2 hf3
          have hr4 := k34 r _ hrb hrg hr3
          refine ⟨f, ws, v, rfl, rfl, hf4, Nat.lt_of_le_of_lt (m := 1000) (by omega) (by decide), ?_⟩
          have hr5 : upd H4 f (.lst (ws ++ [v])) r = some (.lst (R'.map V.int)) := by rw [upd_ne hrf]; exact hr4
          have kt5 : KT H4 (upd H4 f (.lst (ws ++ [v]))) := fun a xs h => by
            rw [upd_ne (ne_of h hf4 (by intro z; cases z))]
            exact h
          have k5 : Keep b g H (upd H4 f (.lst (ws ++ [v]))) := by
            intro a o n1 n2 h
            rw [upd_ne (ne_of_none h hfH)]
            exact (kp.trans (k3.trans k34)) a o n1 n2 h
          have B5 : Bag (upd H4 f (.lst (ws ++ [v]))) b g := by
            obtain ⟨ms, m, t, h1, h2, h3⟩ := B4.ex
            exact ⟨ms, m, t, by rw [upd_ne of'.1.symm]; exact h1, by rw [upd_ne of'.2.symm]; exact h2, h3⟩
          -- rest = rest[size:]
          refine ⟨_, rfl, _, rfl, _, rfl, r, _, rfl, SqL.of hr5, fun p6 hp6 => ?_⟩
          have ht2 : cutV (R'.map V.int) (some size) none = (R'.drop size.toNat).map V.int := by
            rw [cut_from (by omega) (by rw [List.length_map]; omega), List.map_drop]
          rw [ht2]
          have e6 : Same (upd H4 f (.lst (ws ++ [v]))) (upd (upd H4 f (.lst (ws ++ [v]))) p6 (.lst ((R'.drop size.toNat).map V.int))) := same_upd _ hp6
          have o6 := B5.off hp6
          have nf6 : p6 ≠ f := by
            intro q
            rw [q, upd_same] at hp6
            cases hp6
          have kt6 : KT H3 (upd (upd H4 f (.lst (ws ++ [v]))) p6 (.lst ((R'.drop size.toNat).map V.int))) := ((k34.kt B3).trans kt5).trans (KT.of e6)
          refine ⟨p6, R'.drop size.toNat, ws ++ [v], ts ++ [t], _, _, rfl, k5.trans (.same e6), B5.same e6, upd_same, o6.2, nf6, e6 _ _ upd_same, (hats3.mono kt6).append (.cons (hat.mono (kt5.trans (KT.of e6))) .nil), ?_, ?_, ?_, ?_, ?_, oks_all.mpr fun p hp => (List.mem_append.mp hp).elim (oks_all.mp hoks p) fun q => by rw [List.mem_singleton.mp q]; exact hok⟩
          · rw [helds_snoc, hh, List.append_assoc, List.take_append_drop]
            exact hheld
          · rw [List.length_drop]
            omega
          · intro h
            have := hs3 (by omega)
            exact List.drop_eq_nil_of_le (by omega)
          · rw [List.length_append, hws]
            rfl
          · rw [deeps_snoc]
            omega
      · rintro σ H' ⟨r, R', ws, ts, x6, x7, rfl, kp, B', hr', hrg, hrf, hf', hats, hheld, hlen, hend, hws, hdp, hoks⟩
        have hR' : R' = [] := hend (by omega)
        subst hR'
        rw [List.append_nil] at hheld
        refine ⟨_, rfl, _, rfl, b, g, many, rfl, B', by omega, by omega, fun u H4 u0 u1 k4 B4 => ⟨_, _, rfl, rfl, ?_⟩⟩
        have hf4 := k4 f _ of'.1 of'.2 hf'
        have htl := hats.length
        refine ⟨_, rfl, f, _, rfl, .inl ⟨SqL.of hf4, fun p hp => ⟨(by show 2 ≤ sizeLine; decide), fun a ha => ?_⟩⟩⟩
        have npa : p ≠ a := ne_of_none upd_same ha
        have kt7 : KT H' (upd (upd H4 p (.tup ws)) a (.tup [.int (1 + u), .ref p])) := ((k4.kt B').trans (KT.of (same_upd _ hp))).trans (KT.of (same_upd _ ha))
        refine k _ (.t (1 + u) ts) _ (.t upd_same (by rw [upd_ne npa, upd_same]) (hats.mono kt7) (by omega)) (by rw [Tr.held]; exact hheld) (by rw [Tr.deep]; omega) (by rw [Tr.ok]; exact ⟨by omega, by omega, hoks⟩) ?_ ?_
        · exact ((kp.trans k4).new _ hp).new _ ha
        · exact (B4.same (same_upd _ hp)).same (same_upd _ ha)

/-! ### lots -/
/-- all lots of a row, in the order in which both sides lay them -/
inductive Lts (H : Hp) : List V → List (List Int) → Prop
  | nil : Lts H [] []
  | cons {a : Addr} {vs : List V} {l : List Int} {ls : List (List Int)} : H a = some (.tup (l.map V.int)) → Lts H vs ls → Lts H (.ref a :: vs) (l :: ls)
theorem Lts.mono {H H' : Hp} (k : KT H H') : ∀ {vs : List V} {ls : List (List Int)}, Lts H vs ls → Lts H' vs ls
  | _, _, .nil => .nil
  | _, _, .cons h t => .cons (k _ _ h) (t.mono k)
theorem Lts.same {H H' : Hp} {vs : List V} {ls : List (List Int)} (h : Lts H vs ls) (e : Same H H') : Lts H' vs ls := h.mono (KT.of e)
theorem Lts.length {H : Hp} : ∀ {vs : List V} {ls : List (List Int)}, Lts H vs ls → vs.length = ls.length
  | _, _, .nil => rfl
  | _, _, .cons _ t => by rw [List.length_cons, List.length_cons, t.length]
theorem Lts.get {H : Hp} : ∀ {vs : List V} {ls : List (List Int)} {i : Nat} {v : V}, Lts H vs ls → vs[i]? = some v → ∃ (a : Addr) (l : List Int), ls[i]? = some l ∧ v = .ref a ∧ H a = some (.tup (l.map V.int))
  | _, _, _, _, .nil, h => by simp at h
  | _, _, 0, v, .cons (a := a) (l := l) h1 t, e => by
    simp at e
    exact ⟨a, l, rfl, e.symm, h1⟩
  | _, _, i + 1, v, .cons _ t, e => by
    obtain ⟨a, l, h⟩ := t.get (i := i) (v := v) (by simpa using e)
    exact ⟨a, l, by simpa using h⟩
theorem Lts.append {H : Hp} : ∀ {vs ws : List V} {xs ys : List (List Int)}, Lts H vs xs → Lts H ws ys → Lts H (vs ++ ws) (xs ++ ys)
  | _, _, _, _, .nil, h => h
  | _, _, _, _, .cons h1 t, h => .cons h1 (t.append h)
theorem lots_len (R : List Int) : ∀ i, i ≤ R.length → (lotsOf (R.take i)).length = 2 ^ i
  | 0, _ => by rw [List.take_zero]; rfl
  | i + 1, h => by
    have hx : R[i]? = some (R[i]'(by omega)) := List.getElem?_eq_getElem (by omega)
    rw [take_snoc hx, lots_snoc, List.length_append, List.length_map, lots_len R i (by omega), Nat.pow_succ]
    omega
theorem lots_short (R : List Int) : ∀ i, i ≤ R.length → ∀ l ∈ lotsOf (R.take i), l.length ≤ i
  | 0, _, l, hl => by
    rw [List.take_zero] at hl
    have : l = [] := List.mem_singleton.mp hl
    rw [this]
    exact Nat.le_refl _
  | i + 1, h, l, hl => by
    have hx : R[i]? = some (R[i]'(by omega)) := List.getElem?_eq_getElem (by omega)
    rw [take_snoc hx, lots_snoc] at hl
    rcases List.mem_append.mp hl with hl | hl
    · have := lots_short R i (by omega) l hl
      omega
    · obtain ⟨l2, h2, rfl⟩ := List.mem_map.mp hl
      have := lots_short R i (by omega) l2 h2
      rw [List.length_append, List.length_singleton]
      omega
def spLots : Sp := fun vs H Q _ => ∃ (q : Addr) (R : List Int), vs = [.ref q] ∧ H q = some (.lst (R.map V.int)) ∧ R.length ≤ 12 ∧ ∀ (p : Addr) (ws : List V) (H' : Hp), Same H H' → H p = none → H' p = some (.lst ws) → Lts H' ws (lotsOf R) → Q (.ref p) H'
theorem ok__law_every (T : Cd K mg) : FnOk P w K mg base CX0 1 T.a__law_every T.d__law_every p__law_every spLots := by
  have nd : (n__law_every : List Str).Nodup := sc__law_every.nd
  refine T.F__law_every.ok sc__law_every (fun vs H Q E h => ?_) (fun cdv A outer s H vs Q E hr h => ?_)
  · obtain ⟨q, R, rfl, _⟩ := h
    rfl
  obtain ⟨q, R, rfl, hq, hl, k⟩ := h
  have hu64 := hr.units
  refine ⟨_, (pss_cons (ps_set (i := 1) nd rfl (Or.inl rfl) (pe_lst (pa_cons (pe_tup pa_nil) pa_nil)))
      (pss_cons (ps_for PassesOwn.never rfl (pi_list (pv 0)) (pg_name (i := 2) nd rfl (Or.inr rfl))
        (pss_one (ps_set (i := 1) nd rfl (Or.inl rfl) (pe_op op_cat (pv 1) (pe_lc (own := [("_law_some", 3)]) rfl nd (pi_list (pv 1)) (blkOk_by (own := [("_law_some", 3)]) (N := n__law_every) (sc := defScope s__law_every) (by decide +kernel)) (fun _ _ _ _ _ => (pg_name (i := 3) nd rfl (Or.inl rfl))) (fun _ _ _ _ _ => pts_nil) (fun _ _ _ _ _ => (pe_op (show OpR _ (binaryOp .Add) (rCatA K) from op_catA) (pv 3) (pe_tup (pa_cons (pv 2) pa_nil)))))))))
      (pss_one (ps_ret (pv 1))))), ?_⟩
  refine seq_cut (fun σ H' => ∃ (f p : Addr), σ = [some (.ref q), some (.ref f), none, none] ∧ Same H H' ∧ H f = none ∧ H' f = some (.lst [.ref p]) ∧ H' p = some (.tup [])) (fun N hN => ?_) ?_
  · refine ⟨(by show 0 ≤ sizeLine; decide), fun p hp => ⟨(by show 1 ≤ sizeLine; decide), fun f hf => ?_⟩⟩
    have e1 := same_upd (.tup []) hp
    have e2 := same_upd (.lst [V.ref p]) hf
    exact hN _ _ ⟨f, p, rfl, e1.trans e2, e1.free hf, upd_same, e2 _ _ upd_same⟩
  rintro σ H1 ⟨f, p, rfl, e1, hf0, hf, hp⟩
  refine seq_cut (fun σ H' => ∃ (f : Addr) (ws : List V) (y2 y3 : Option V), σ = [some (.ref q), some (.ref f), y2, y3] ∧ Same H H' ∧ H f = none ∧ H' f = some (.lst ws) ∧ Lts H' ws (lotsOf R)) (fun N hN => ?_) ?_
  · refine ⟨_, rfl, q, rfl, ⟨_, SqL.of (e1 _ _ hq)⟩, ?_⟩
    refine for_list (K := K) (a := q) (xs := R.map V.int) (fun i σ H' => ∃ (f : Addr) (ws : List V) (y2 y3 : Option V), σ = [some (.ref q), some (.ref f), y2, y3] ∧ Same H H' ∧ H f = none ∧ H' f = some (.lst ws) ∧ Lts H' ws (lotsOf (R.take i))) ?_ ?_ ?_ ?_
    · exact ⟨f, _, _, _, rfl, e1, hf0, hf, by rw [List.take_zero]; exact .cons hp .nil⟩
    · rintro i σ H' _ ⟨f, ws, y2, y3, rfl, e, _⟩
      exact SqL.of (e _ _ hq)
    · rintro i x σ H' hx ⟨f, ws, y2, y3, rfl, e, hf0, hf, hw⟩
      obtain ⟨z, hz, rfl⟩ := get_ints hx
      have hi := (List.getElem?_eq_some_iff.mp hz).1
      have hwl := hw.length
      rw [lots_len R i (by omega)] at hwl
      have hp2 : 2 ^ i ≤ 2 ^ 11 := Nat.pow_le_pow_right (by decide) (by omega)
      refine ⟨_, rfl, _, rfl, f, rfl, ⟨_, SqL.of hf⟩, fun D hD => ?_⟩
      have sty : ∀ {H9 : Hp} {ys zs : List V}, H9 D = some (.lst ys) → KT H9 (upd H9 D (.lst zs)) := fun {H9 ys zs} h c xs hc => by
        rw [upd_ne fun z => by
          rw [z, h] at hc
          cases hc]
        exact hc
      refine lc_list (K := K) (a := f) (xs := ws) (fun j H9 => Same H' H9 ∧ ∃ ys, H9 D = some (.lst ys) ∧ Lts H9 ys (((lotsOf (R.take i)).take j).map (· ++ [z]))) ⟨same_upd _ hD, [], upd_same, by rw [List.take_zero]; exact .nil⟩ (fun j H9 _ ⟨e, _⟩ => SqL.of (e _ _ hf)) ?_ ?_
      · rintro j x H9 hx ⟨e9, ys, hys, hpy⟩
        obtain ⟨a2, l2, g1, rfl, g2⟩ := hw.get hx
        have hj := (List.getElem?_eq_some_iff.mp hx).1
        have hll := lots_short R i (by omega) l2 (List.mem_of_getElem? g1)
        refine ⟨rfl, _, rfl, _, rfl, (by show 1 ≤ sizeLine; decide), fun p3 hp3 => ?_⟩
        have f1 := same_upd (.tup [V.int z]) hp3
        refine Own.catA_go (f1 _ _ (e9 _ _ g2)) upd_same (by simp; omega) fun p4 Ha ea h4 => ?_
        have f2 := f1.trans ea
        have hys' := f2 _ _ hys
        refine ⟨ys, hys', ?_, same_upd2 _ (e9.trans f2) hD, ys ++ [.ref p4], upd_same, ?_⟩
        · have := hpy.length
          rw [List.length_map, List.length_take] at this
          exact Nat.lt_of_le_of_lt (m := 2048) (by omega) (by decide)
        · rw [take_snoc g1, List.map_append]
          refine ((hpy.same f2).mono (sty hys')).append (.cons ?_ .nil)
          refine (sty hys') _ _ ?_
          rw [h4, List.map_append]
          rfl
      · rintro H9 ⟨e9, ys, hys, hpy⟩
        have hyl := hpy.length
        rw [hw.length, List.take_length] at hpy
        rw [List.length_map, List.length_take] at hyl
        refine ⟨f, D, ws, ys, rfl, rfl, e9 _ _ hf, hys, Nat.le_trans (m := 4096) (by omega) (by decide), fun p6 hp6 => ?_⟩
        have e6 := same_upd (.lst (ws ++ ys)) hp6
        refine ⟨p6, ws ++ ys, _, _, rfl, (e.trans e9).trans e6, (e.trans e9).free hp6, upd_same, ?_⟩
        rw [take_snoc hz, lots_snoc]
        exact ((hw.same e9).same e6).append (hpy.same e6)
    · rintro σ H' ⟨f, ws, y2, y3, rfl, e, hf0, hf, hw⟩
      rw [List.length_map, List.take_length] at hw
      exact hN _ _ ⟨f, ws, _, _, rfl, e, hf0, hf, hw⟩
  rintro σ H2 ⟨f, ws, y2, y3, rfl, e2, hf0, hf, hw⟩
  exact ⟨_, rfl, k f ws H2 e2 hf0 hf hw⟩

theorem map_get {α β : Type} {f : α → β} {l : List α} {i : Nat} {y : β} (h : (l.map f)[i]? = some y) : ∃ x, l[i]? = some x ∧ y = f x := by
  rw [List.getElem?_map] at h
  cases e : l[i]? with
  | none => rw [e] at h; cases h
  | some z => rw [e] at h; exact ⟨z, rfl, (Option.some.inj h).symm⟩
theorem map_at {α β : Type} {f : α → β} {l : List α} {i : Nat} {x : α} (h : l[i]? = some x) : (l.map f)[i]? = some (f x) := by
  rw [List.getElem?_map, h]
  rfl

/-! ### parts by any value -/
theorem I_NoPart (T : Cd K mg) : FnOk P w K mg base CX0 1 T.a_NoPart__init__ T.d_NoPart__init__ p_NoPart__init__ (spInit1 T.c_NoPart "given") := by
  have nd : (n_NoPart__init__ : List Str).Nodup := sc_NoPart__init__.nd
  refine T.F_NoPart__init__.ok sc_NoPart__init__ (fun vs H Q E h => ?_) (fun cdv A outer s H vs Q E hr h => ?_)
  · obtain ⟨a, v, rfl, _⟩ := h
    rfl
  obtain ⟨a, v, rfl, ha, k⟩ := h
  refine ⟨_, (pss_cons (ps_expr (pe_bcinit rfl T.m_TripError T.cr_TripError T.vi_TripError (pa_cons (pv 0) (pa_cons pe_str pa_nil)))) (pss_one (ps_ost (pv 0) (pv 1)))), ?_⟩
  exact ⟨_, rfl, a, T.c_NoPart, [_], rfl, Nat.le_of_ble_eq_true rfl, T.ox_NoPart, ha, _, rfl, _, rfl, a, T.c_NoPart, rfl, T.ox_NoPart, T.no_NoPart, .inl ⟨ha, fun dx h1 h2 => k dx h1 h2⟩⟩
def spIsInt : Sp := fun vs H Q _ => ∃ (X : Addr → Prop) (v : V) (d : PyData), vs = [v] ∧ AtX X H v d ∧ Q (.bl (isInt d)) H
theorem ok_is_integer (T : Cd K mg) : FnOk P w K mg base CX0 1 T.a_is_integer T.d_is_integer p_is_integer spIsInt := by
  refine T.F_is_integer.ok sc_is_integer (fun vs H Q E h => ?_) (fun cdv A outer s H vs Q E hr h => ?_)
  · obtain ⟨X, v, d, rfl, _⟩ := h
    rfl
  obtain ⟨X, v, d, rfl, hv, q⟩ := h
  refine ⟨_, (pss_one (ps_ret (pe_and (pe_callB call_isi (by rfl) T.z_isinstance (by decide +kernel) (pa_cons (pv 0) (pa_cons (pe_bltn (v := .ty "int") (u := .type "int") rfl T.z_int (by decide +kernel) rfl) pa_nil))) (pe_one (pe_not (pe_callB call_isi (by rfl) T.z_isinstance (by decide +kernel) (pa_cons (pv 0) (pa_cons (pe_bltn (v := .ty "bool") (u := .type "bool") rfl T.z_bool (by decide +kernel) rfl) pa_nil)))))))), ?_⟩
  refine ⟨_, rfl, _, _, _, _, _, rfl, .ty "int", hv.ty, kit_ty (kit_int d), _, rfl, ?_⟩
  cases d <;> first
    | exact q
    | exact ⟨_, rfl, _, _, _, _, _, rfl, .ty "bool", hv.ty, kit_ty (kit_bool _), _, rfl, q⟩
def stepD : Tr → PyData → Option Tr
  | .t _ ps, .int i => if 0 ≤ i ∧ i < (ps.length : Int) then ps[i.toNat]? else none
  | _, _ => none
def pathD : Tr → List PyData → Option Tr
  | t, [] => some t
  | t, d :: r => match stepD t d with
    | some p => pathD p r
    | none => none
def wayD (t : Tr) : PyData → Option Tr
  | .tuple ds => pathD t ds
  | _ => none
theorem pathD_app : ∀ (l m : List PyData) (t : Tr), pathD t (l ++ m) = (pathD t l).bind fun s => pathD s m
  | [], m, t => rfl
  | d :: r, m, t => by
    rw [List.cons_append, pathD, pathD]
    cases stepD t d with
    | none => rfl
    | some p => exact pathD_app r m p
theorem pathD_one (t : Tr) (d : PyData) : pathD t [d] = stepD t d := by
  rw [pathD]
  cases stepD t d with
  | none => rfl
  | some p => rfl
theorem pathD_snoc {t s : Tr} {l : List PyData} {i : Nat} {d : PyData} (h : l[i]? = some d) (hs : pathD t (l.take i) = some s) : pathD t (l.take (i + 1)) = stepD s d := by
  rw [take_snoc h, pathD_app, hs]
  exact pathD_one s d
theorem pathD_stop {t : Tr} {l : List PyData} {i : Nat} (h : pathD t (l.take i) = none) : pathD t l = none := by
  rw [← List.take_append_drop i l, pathD_app, h]
  rfl
theorem stepD_int {t p : Tr} {d : PyData} (h : stepD t d = some p) : ∃ (k : Int) (ps : List Tr) (i : Int), t = .t k ps ∧ d = .int i ∧ 0 ≤ i ∧ i < ps.length ∧ ps[i.toNat]? = some p := by
  cases t with
  | b j => simp [stepD] at h
  | t k ps =>
    cases d with
    | int i =>
      rw [stepD] at h
      split at h
      · rename_i hc
        exact ⟨k, ps, i, rfl, rfl, hc.1, hc.2, h⟩
      · cases h
    | _ => simp [stepD] at h
theorem pathD_ints : ∀ {l : List PyData} {t s : Tr}, pathD t l = some s → ∃ wy : List Int, l = wy.map PyData.int ∧ toward t wy = some s
  | [], t, s, h => ⟨[], rfl, by rw [toward_nil]; exact h⟩
  | d :: r, t, s, h => by
    rw [pathD] at h
    cases hd : stepD t d with
    | none => rw [hd] at h; cases h
    | some p =>
      rw [hd] at h
      obtain ⟨k, ps, i, rfl, rfl, h0, h1, hp⟩ := stepD_int hd
      obtain ⟨wy, rfl, hw⟩ := pathD_ints (t := p) h
      exact ⟨i :: wy, rfl, by rw [toward_mk h0 hp]; exact hw⟩
theorem toward_pathD : ∀ {wy : List Int} {t s : Tr}, toward t wy = some s → pathD t (wy.map PyData.int) = some s
  | [], t, s, h => by rw [toward_nil] at h; exact h
  | i :: wy, .b _, s, h => by
    rw [toward] at h
    cases h
  | i :: wy, .t k ps, s, h => by
    obtain ⟨h0, p, hp, hw⟩ := toward_cons h
    have hi := (List.getElem?_eq_some_iff.mp hp).1
    rw [List.map_cons, pathD, stepD, if_pos ⟨h0, by omega⟩, hp]
    exact toward_pathD hw
theorem AtXs.mem_int {X : Addr → Prop} {H : Hp} : ∀ {ws : List V} {zs : List Int}, AtXs X H ws (zs.map PyData.int) → ws = zs.map V.int
  | [], [], _ => rfl
  | _ :: _, z :: zs, .cons h t => by
    cases h
    rw [AtXs.mem_int t]
    rfl
def spPartAt (C : Addr) : Sp := fun vs H Q E => ∃ (X : Addr → Prop) (v u : V) (t : Tr) (d : PyData), vs = [v, u] ∧ At H v t ∧ AtX X H u d ∧
  (∀ s, wayD t d = some s → ∀ (x : V) (H' : Hp), Same H H' → At H' x s → Q x H') ∧
  (wayD t d = none → ∀ (dd : Addr) (H' : Hp), Same H H' → H' dd = some (.xd [("given", u)]) → E (.ref C) (some dd) H')
theorem ok_part_at (T : Cd K mg) : FnOk P w K mg base (L2.CX P w) 4 T.a_part_at T.d_part_at p_part_at (spPartAt T.c_NoPart) := by
  have nd : (n_part_at : List Str).Nodup := sc_part_at.nd
  have G_is_trip : FnOk P w K mg base CX0 1 T.a_is_trip T.d_is_trip p_is_trip spIsTrip := ok_is_trip T
  have G_is_integer : FnOk P w K mg base CX0 1 T.a_is_integer T.d_is_integer p_is_integer spIsInt := ok_is_integer T
  refine T.F_part_at.okX sc_part_at (fun vs H Q E h => ?_) (fun cdv A outer s H vs Q E hr h => ?_)
  · obtain ⟨X, v, u, t, d, rfl, _⟩ := h
    rfl
  obtain ⟨X, v, u, t, d, rfl, hv, hu, kQ, kE⟩ := h
  refine ⟨_, (pss_cons (ps_if (pt_not (pt_val (pe_callB call_isi (by rfl) T.z_isinstance (by decide +kernel) (pa_cons (pv 1) (pa_cons (pe_bltn (v := .ty "tuple") (u := .type "tuple") rfl T.z_tuple (by decide +kernel) rfl) pa_nil))))) (pss_one (ps_raise rfl (takes_of rfl rfl rfl rfl) (pmk_oex T.ox_NoPart T.ii_NoPart T.it_NoPart__init__ (I_NoPart T) (hr.mono (by decide)) T.b_NoPart__init__ .nil pass0 rfl T.m_NoPart (pa_cons (pv 1) pa_nil)))) pss_nil)
      (pss_cons (ps_set (i := 2) nd rfl (Or.inl rfl) (pv 0))
      (pss_cons (ps_for (passes_of rfl) rfl (pi_tup (pv 1)) (pg_name (i := 3) nd rfl (Or.inl rfl))
        (pss_cons (ps_if (PW.pt (pw_or (pt_not (pt_val (pe_call G_is_trip (hr.mono (by decide)) rfl T.m_is_trip T.F_is_trip.kp T.b_is_trip .nil pass0 (pa_cons (pv 2) pa_nil)))) (pw_or (pt_not (pt_val (pe_call G_is_integer (hr.mono (by decide)) rfl T.m_is_integer T.F_is_integer.kp T.b_is_integer .nil pass0 (pa_cons (pv 3) pa_nil)))) (pw_or1 (pt_not (pt_chain op_le op_lt pe_int (pv 3) (pe_callB call_len_seq (by rfl) T.z_len (by decide +kernel) (pa_cons (pe_ix ix_tup (pv 2) pe_int (fun _ _ => rfl)) pa_nil)))))))) (pss_one (ps_raise rfl (takes_of rfl rfl rfl rfl) (pmk_oex T.ox_NoPart T.ii_NoPart T.it_NoPart__init__ (I_NoPart T) (hr.mono (by decide)) T.b_NoPart__init__ .nil pass0 rfl T.m_NoPart (pa_cons (pv 1) pa_nil)))) pss_nil)
      (pss_one (ps_set (i := 2) nd rfl (Or.inl rfl) (pe_ix ix_tup (pe_ix ix_tup (pv 2) pe_int (fun _ _ => rfl)) (pv 3) (fun _ _ => rfl))))))
      (pss_one (ps_ret (pv 2)))))), ?_⟩
  refine seq_cut (fun σ H' => σ = [some v, some u, none, none] ∧ H' = H ∧ ∃ ds, d = .tuple ds) (fun N hN => ?_) ?_
  · refine ⟨_, rfl, _, _, _, _, _, rfl, .ty "tuple", hu.ty, kit_ty (kit_tup d), ?_⟩
    refine ⟨_, rfl, ?_⟩
    have bad : wayD t d = none → ∀ (dd : Addr), H dd = none → E (.ref T.c_NoPart) (some dd) (upd H dd (.xd [("given", u)])) := fun h dd hd => kE h dd _ (same_upd _ hd) upd_same
    cases d with
    | tuple ds => exact iteF (hN _ _ ⟨rfl, rfl, ds, rfl⟩)
    | none => exact iteT ⟨_, rfl, raise_init (bad rfl)⟩
    | bool x => exact iteT ⟨_, rfl, raise_init (bad rfl)⟩
    | int x => exact iteT ⟨_, rfl, raise_init (bad rfl)⟩
    | str x => exact iteT ⟨_, rfl, raise_init (bad rfl)⟩
    | list x => exact iteT ⟨_, rfl, raise_init (bad rfl)⟩
    | dict x => exact iteT ⟨_, rfl, raise_init (bad rfl)⟩
  rintro σ H0 ⟨rfl, rfl, ds, rfl⟩
  obtain ⟨a, ws, rfl, ha, hws⟩ : ∃ a ws, u = .ref a ∧ H0 a = some (.tup ws) ∧ AtXs X H0 ws ds := by
    cases hu with
    | tup h t => exact ⟨_, _, rfl, h, t⟩
  have hwl := hws.length
  refine ⟨_, rfl, _, rfl, a, rfl, ⟨_, SqT.of ha⟩, ?_⟩
  refine for_tup (K := K) (a := a) (xs := ws) (fun i σ H' => ∃ (x : V) (s : Tr) (y : Option V), σ = [some v, some (.ref a), some x, y] ∧ Same H0 H' ∧ At H' x s ∧ pathD t (ds.take i) = some s) ?_ ?_ ?_ ?_
  · exact ⟨v, t, none, rfl, Same.refl _, hv, by rw [List.take_zero]; rfl⟩
  · rintro i σ H' _ ⟨x, s, y, rfl, e, _⟩
    exact SqT.of (e _ _ ha)
  · rintro i z σ H' hz ⟨x, sx, y, rfl, e, hx, hp⟩
    obtain ⟨dz, hdz, haz⟩ := hws.get hz
    have hst := pathD_snoc hdz hp
    have bad : stepD sx dz = none → ∀ (dd : Addr), H' dd = none → E (.ref T.c_NoPart) (some dd) (upd H' dd (.xd [("given", .ref a)])) := fun h dd hd => by
      refine kE ?_ dd _ (e.trans (same_upd _ hd)) upd_same
      show pathD t ds = none
      exact pathD_stop (i := i + 1) (by rw [hst]; exact h)
    refine ⟨_, rfl, x, sx, rfl, hx, _, rfl, ?_⟩
    cases hx with
    | b j => exact iteT ⟨_, rfl, raise_init (bad rfl)⟩
    | @t a' p' kk us ps h1 h2 h3 h4 =>
      refine iteF ⟨_, rfl, X, z, dz, rfl, haz.same e, _, rfl, ?_⟩
      have hlu := h3.length
      have hni : isInt dz = false → stepD (.t kk ps) dz = none := fun h => by
        cases dz <;> first
          | rfl
          | cases h
      cases hI : isInt dz with
      | false => exact iteT ⟨_, rfl, raise_init (bad (hni hI))⟩
      | true =>
        cases haz with
        | int i' =>
          refine iteF ⟨_, rfl, _, _, rfl, rfl, _, rfl, ite2 (fun h0 => ?_) (fun h0 => ?_)⟩
          · have h0' := of_decide_eq_true h0
            refine ⟨_, rfl, a', _, 1, .ref p', rfl, rfl, SqT.of h1, rfl, p', us, rfl, .inr (SqT.of h2), _, _, rfl, rfl, _, rfl, ?_⟩
            cases hc : decide (i' < (us.length : Int)) with
            | false =>
              have := of_decide_eq_false hc
              exact iteT ⟨_, rfl, raise_init (bad (by rw [stepD, if_neg (fun z => by omega)]))⟩
            | true =>
              have hc' := of_decide_eq_true hc
              obtain ⟨x1, hx1⟩ : ∃ x1, us[i'.toNat]? = some x1 := ⟨_, List.getElem?_eq_getElem (by omega)⟩
              obtain ⟨p1, hp1, hat1⟩ := h3.get hx1
              refine iteF ⟨_, rfl, a', _, 1, .ref p', rfl, rfl, SqT.of h1, rfl, _, rfl, p', us, i', x1, rfl, rfl, SqT.of h2, at_of (j := i'.toNat) (by omega) hx1, x1, p1, _, rfl, e, hat1, ?_⟩
              rw [hst, stepD, if_pos ⟨h0', by omega⟩]
              exact hp1
          · have h0' : ¬ 0 ≤ i' := fun z => h0 (decide_eq_true z)
            exact ⟨_, rfl, iteT ⟨_, rfl, raise_init (bad (by rw [stepD, if_neg (fun z => h0' z.1)]))⟩⟩
        | _ => cases hI
  · rintro σ H1 ⟨x, sx, y, rfl, e, hx, hp⟩
    rw [hwl, List.take_length] at hp
    exact ⟨_, rfl, kQ sx hp x H1 e hx⟩

theorem way_deep {s : Tr} : ∀ {w : List Int} {t : Tr}, toward t w = some s → w.length + s.deep ≤ t.deep
  | [], t, h => by
    rw [toward_nil] at h
    cases h
    simp
  | i :: w, .b _, h => by
    rw [toward] at h
    cases h
  | i :: w, .t k ps, h => by
    obtain ⟨h0, p, hp, hr⟩ := toward_cons h
    have := way_deep hr
    have := deep_get hp
    rw [Tr.deep, List.length_cons]
    omega
theorem sub_len : ∀ {ps : List Tr} {i : Nat} {p : Tr}, ps[i]? = some p → p.held.length ≤ (Tr.helds ps).length
  | [], _, _, h => by simp at h
  | q :: r, 0, p, h => by
    simp at h
    rw [h, Tr.helds, List.length_append]
    omega
  | q :: r, i + 1, p, h => by
    have := sub_len (ps := r) (i := i) (p := p) (by simpa using h)
    rw [Tr.helds, List.length_append]
    omega
mutual
theorem at_x {X : Addr → Prop} {H : Hp} : ∀ {v : V} {t : Tr}, At H v t → AtX X H v t.d
  | _, _, .b i => by
    rw [Tr.d]
    exact .int i
  | _, _, .t h1 h2 h3 _ => by
    rw [Tr.d]
    exact .tup h1 (.cons (.int _) (.cons (.tup h2 (ats_x h3)) .nil))
theorem ats_x {X : Addr → Prop} {H : Hp} : ∀ {vs : List V} {ts : List Tr}, Ats H vs ts → AtXs X H vs (Tr.ds ts)
  | _, _, .nil => by
    rw [Tr.ds]
    exact .nil
  | _, _, .cons h1 h2 => by
    rw [Tr.ds]
    exact .cons (at_x h1) (ats_x h2)
end
def zOf : PyData → Int
  | .int i => i
  | _ => 0
def waysOf : PyData → List Int
  | .tuple ds => ds.map zOf
  | _ => []
theorem zOf_ints (wy : List Int) : (wy.map PyData.int).map zOf = wy := by
  rw [List.map_map]
  exact List.map_id' wy
theorem way_at {X : Addr → Prop} {H : Hp} {u : V} {d : PyData} {t s : Tr} (hu : AtX X H u d) (h : wayD t d = some s) : ∃ (a : Addr) (wy : List Int), u = .ref a ∧ H a = some (.tup (wy.map V.int)) ∧ d = .tuple (wy.map PyData.int) ∧ toward t wy = some s ∧ waysOf d = wy := by
  cases hu with
  | tup ha hws =>
    obtain ⟨wy, rfl, hw⟩ := pathD_ints h
    rw [AtXs.mem_int hws] at ha
    exact ⟨_, wy, rfl, ha, rfl, hw, zOf_ints wy⟩
  | _ => cases h
theorem I_NoButton (T : Cd K mg) : FnOk P w K mg base CX0 1 T.a_NoButton__init__ T.d_NoButton__init__ p_NoButton__init__ (spInit1 T.c_NoButton "given") := by
  have nd : (n_NoButton__init__ : List Str).Nodup := sc_NoButton__init__.nd
  refine T.F_NoButton__init__.ok sc_NoButton__init__ (fun vs H Q E h => ?_) (fun cdv A outer s H vs Q E hr h => ?_)
  · obtain ⟨a, v, rfl, _⟩ := h
    rfl
  obtain ⟨a, v, rfl, ha, k⟩ := h
  refine ⟨_, (pss_cons (ps_expr (pe_bcinit rfl T.m_TripError T.cr_TripError T.vi_TripError (pa_cons (pv 0) (pa_cons pe_str pa_nil)))) (pss_one (ps_ost (pv 0) (pv 1)))), ?_⟩
  exact ⟨_, rfl, a, T.c_NoButton, [_], rfl, Nat.le_of_ble_eq_true rfl, T.ox_NoButton, ha, _, rfl, _, rfl, a, T.c_NoButton, rfl, T.ox_NoButton, T.no_NoButton, .inl ⟨ha, fun dx h1 h2 => k dx h1 h2⟩⟩
/-! ### ways to buttons -/
theorem shaped_int (i : Int) : SeqAt.shaped (.int i) = true := by
  unfold SeqAt.shaped
  simp [PyData.canLay0, PyData.depth]
theorem eqv_int (i j : Int) : PyData.eqv (.int i) (.int j) = decide (i = j) := by
  rw [PyData.eqv]
  by_cases h : i = j
  · subst h
    simp
  · simp [h]
theorem mem_part {z : Int} : ∀ {ps : List Tr} {i : Nat} {p : Tr}, ps[i]? = some p → z ∈ p.held → z ∈ Tr.helds ps
  | [], _, _, h, _ => by simp at h
  | q :: r, 0, p, h, hz => by
    simp at h
    rw [Tr.helds, h]
    exact List.mem_append_left _ hz
  | q :: r, i + 1, p, h, hz => by
    rw [Tr.helds]
    exact List.mem_append_right _ (mem_part (ps := r) (i := i) (by simpa using h) hz)
def spWayFrom (n : Nat) : Sp := fun vs H Q _ => ∃ (v : V) (z : Int) (t : Tr), vs = [v, .int z] ∧ At H v t ∧ t.deep < n ∧ n ≤ 200 ∧ (z ∉ t.held → ∀ H', Same H H' → Q .non H') ∧ (z ∈ t.held → ∀ (p : Addr) (wy : List Int) (H' : Hp), Same H H' → toward t wy = some (.b z) → H' p = some (.tup (wy.map V.int)) → Q (.ref p) H')
theorem ok__way_from (T : Cd K mg) : ∀ n, FnOk P w K mg base CX0 (n + 2) T.a__way_from T.d__way_from p__way_from (spWayFrom n)
  | 0 => by
    have no : ∀ vs H Q E, ¬ spWayFrom 0 vs H Q E := fun vs H Q E h => by
      obtain ⟨v, z, t, _, _, h, _⟩ := h
      omega
    exact ⟨fun vs H Q E h => absurd h (no vs H Q E), fun A outer s H args us vs Q E _ _ _ _ h => absurd h (no vs H Q E)⟩
  | n + 1 => by
    have G__way_from : FnOk P w K mg base CX0 (n + 2) T.a__way_from T.d__way_from p__way_from (spWayFrom n) := ok__way_from T n
    have G_is_trip : FnOk P w K mg base CX0 1 T.a_is_trip T.d_is_trip p_is_trip spIsTrip := ok_is_trip T
    have nd : (n__way_from : List Str).Nodup := sc__way_from.nd
    refine T.F__way_from.ok sc__way_from (fun vs H Q E h => ?_) (fun cdv A outer s H vs Q E hr h => ?_)
    · obtain ⟨v, z, t, rfl, _⟩ := h
      rfl
    obtain ⟨v, z, t, rfl, hv, hd, hn, kN, kF⟩ := h
    have hu64 := hr.units
    refine ⟨_, (pss_cons (ps_if (pt_not (pt_val (pe_call G_is_trip (hr.mono (by omega)) rfl T.m_is_trip T.F_is_trip.kp T.b_is_trip .nil pass0 (pa_cons (pv 0) pa_nil)))) (pss_one (ps_ret (pe_ifExp (pt_cmpR (op_eqD hu64) (pv 0) (pv 1) (nomark _)) (pe_tup pa_nil) pe_non))) pss_nil)
      (pss_cons (ps_for PassesOwn.never rfl (pi_enumT (by rfl) T.z_enumerate (pa_cons (pe_ix ix_tup (pv 0) pe_int (fun _ _ => rfl)) pa_nil)) (pg_tup rfl (pgs_cons (pg_name (i := 2) nd rfl (Or.inl rfl)) (pgs_cons (pg_name (i := 3) nd rfl (Or.inl rfl)) pgs_nil)))
        (pss_cons (ps_set (i := 4) nd rfl (Or.inl rfl) (pe_call G__way_from (hr.mono (by omega)) rfl T.m__way_from T.F__way_from.kp T.b__way_from .nil pass0 (pa_cons (pv 3) (pa_cons (pv 1) pa_nil))))
      (pss_one (ps_if (pt_cmpR op_notN (pv 4) pe_non (nomark _)) (pss_one (ps_ret (pe_op op_catA (pe_tup (pa_cons (pv 2) pa_nil)) (pv 4)))) pss_nil))))
      (pss_one (ps_ret pe_non)))), ?_⟩
    refine ⟨_, rfl, v, t, rfl, hv, _, rfl, ?_⟩
    cases hv with
    | b i =>
      refine iteT ⟨_, rfl, _, rfl, _, _, .int i, .int z, shaped_int i, shaped_int z, _, rfl, ?_⟩
      rw [eqv_int]
      rw [Tr.held] at kN kF
      by_cases hz : i = z
      · rw [decide_eq_true hz]
        subst hz
        exact iteT ⟨(by show 0 ≤ sizeLine; decide), fun p hp => kF (List.mem_singleton.mpr rfl) p [] _ (same_upd _ hp) rfl upd_same⟩
      · rw [decide_eq_false hz]
        exact iteF (kN (fun h => hz (List.mem_singleton.mp h).symm) H (Same.refl _))
    | @t a p kk ws ps h1 h2 h3 h4 =>
      have hlw := h3.length
      rw [Tr.deep] at hd
      rw [Tr.held] at kN kF
      refine iteF ?_
      refine ⟨_, rfl, a, _, 1, .ref p, rfl, rfl, SqT.of h1, rfl, p, ws, rfl, SqT.of h2, ?_⟩
      refine for_it (J := IteT K p) (walk_enumT (xs := ws)) (fun i σ H' => ∃ (y2 y3 y4 : Option V), σ = [some (.ref a), some (.int z), y2, y3, y4] ∧ Same H H' ∧ z ∉ Tr.helds (ps.take i)) ?_ ?_ ?_ ?_
      · exact ⟨none, none, none, rfl, Same.refl _, by rw [List.take_zero, Tr.helds]; exact fun h => nomatch h⟩
      · rintro i σ H' _ ⟨y2, y3, y4, rfl, e, _⟩
        exact SqT.of (e _ _ h2)
      · rintro i x σ H' H'' hi ⟨y2, y3, y4, rfl, e, hz⟩ ⟨Tu, xi, yi, rfl, hTn, rfl, hxi, hyi⟩
        cases hxi
        obtain ⟨pt, hpt, hat⟩ := h3.get hyi
        have e7 : Same H' (upd H' Tu (.tup [.int (i : Nat), yi])) := same_upd _ hTn
        have hT7 : upd H' Tu (.tup [.int (i : Nat), yi]) Tu = some (.tup [.int (i : Nat), yi]) := upd_same
        have e67 := e.trans e7
        generalize upd H' Tu (.tup [.int (i : Nat), yi]) = H7 at e67 hT7 ⊢
        refine ⟨Tu, _, rfl, SqT.of hT7, rfl, _, _, rfl, _, _, rfl, rfl, ?_⟩
        have hdp := deep_get hpt
        refine ⟨_, rfl, _, rfl, yi, z, pt, rfl, hat.same e67, by omega, by omega, fun hno H8 e8 => ?_, fun hin p8 wy H8 e8 hto hp8 => ?_⟩
        · refine ⟨_, rfl, rfl, _, rfl, ?_⟩
          refine iteF ⟨_, _, _, rfl, e67.trans e8, ?_⟩
          rw [take_snoc hpt, helds_snoc]
          intro h
          rcases List.mem_append.mp h with h | h
          · exact hz h
          · exact hno h
        · refine ⟨_, rfl, rfl, _, rfl, ?_⟩
          refine iteT ⟨_, rfl, (by show 1 ≤ sizeLine; decide), fun q hq => ⟨_, rfl, ?_⟩⟩
          have eq := same_upd (.tup [V.int (i : Nat)]) hq
          have hwd := way_deep hto
          refine Own.catA_go upd_same (eq _ _ hp8) (by simp; omega) fun q2 H9 e9 h9 => ?_
          refine kF (mem_part hpt hin) q2 ((i : Int) :: wy) H9 (((e67.trans e8).trans eq).trans e9) ?_ h9
          rw [toward_mk (by omega) (p := pt) (by rw [Int.toNat_natCast]; exact hpt)]
          exact hto
      · rintro σ H' ⟨y2, y3, y4, rfl, e, hz⟩
        rw [hlw, List.take_length] at hz
        exact kN hz H' e
def spWayTo (C : Addr) : Sp := fun vs H Q E => ∃ (X : Addr → Prop) (v u : V) (t : Tr) (d : PyData), vs = [v, u] ∧ At H v t ∧ t.deep < 60 ∧ AtX X H u d ∧
  (∀ z, d = .int z → z ∈ t.held → ∀ (p : Addr) (wy : List Int) (H' : Hp), Same H H' → toward t wy = some (.b z) → H' p = some (.tup (wy.map V.int)) → Q (.ref p) H') ∧
  ((∀ z, d = .int z → z ∉ t.held) → ∀ (dd : Addr) (H' : Hp), Same H H' → H' dd = some (.xd [("given", u)]) → E (.ref C) (some dd) H')
theorem ok_way_to (T : Cd K mg) : FnOk P w K mg base (L2.CX P w) 64 T.a_way_to T.d_way_to p_way_to (spWayTo T.c_NoButton) := by
  have nd : (n_way_to : List Str).Nodup := sc_way_to.nd
  have G_is_integer : FnOk P w K mg base CX0 1 T.a_is_integer T.d_is_integer p_is_integer spIsInt := ok_is_integer T
  have G__way_from : FnOk P w K mg base CX0 62 T.a__way_from T.d__way_from p__way_from (spWayFrom 60) := ok__way_from T 60
  refine T.F_way_to.okX sc_way_to (fun vs H Q E h => ?_) (fun cdv A outer s H vs Q E hr h => ?_)
  · obtain ⟨X, v, u, t, d, rfl, _⟩ := h
    rfl
  obtain ⟨X, v, u, t, d, rfl, hv, hdp, hu, kQ, kE⟩ := h
  refine ⟨_, (pss_cons (ps_set (i := 2) nd rfl (Or.inl rfl) (pe_ifExp (pt_val (pe_call G_is_integer (hr.mono (by decide)) rfl T.m_is_integer T.F_is_integer.kp T.b_is_integer .nil pass0 (pa_cons (pv 1) pa_nil))) (pe_call G__way_from (hr.mono (by decide)) rfl T.m__way_from T.F__way_from.kp T.b__way_from .nil pass0 (pa_cons (pv 0) (pa_cons (pv 1) pa_nil))) pe_non))
      (pss_cons (ps_if (pt_cmpR op_isN (pv 2) pe_non (nomark _)) (pss_one (ps_raise rfl (takes_of rfl rfl rfl rfl) (pmk_oex T.ox_NoButton T.ii_NoButton T.it_NoButton__init__ (I_NoButton T) (hr.mono (by decide)) T.b_NoButton__init__ .nil pass0 rfl T.m_NoButton (pa_cons (pv 1) pa_nil)))) pss_nil)
      (pss_one (ps_ret (pv 2))))), ?_⟩
  refine seq_cut (fun σ H' => ∃ x : V, σ = [some v, some u, some x] ∧ Same H H' ∧ ((x = .non ∧ ∀ z, d = .int z → z ∉ t.held) ∨ ∃ (p : Addr) (wy : List Int) (z : Int), x = .ref p ∧ d = .int z ∧ z ∈ t.held ∧ toward t wy = some (.b z) ∧ H' p = some (.tup (wy.map V.int)))) (fun N hN => ?_) ?_
  · refine ⟨_, rfl, X, u, d, rfl, hu, _, rfl, ?_⟩
    cases hI : isInt d with
    | false => exact iteF (hN _ _ ⟨.non, rfl, Same.refl _, .inl ⟨rfl, fun z hz => by rw [hz] at hI; cases hI⟩⟩)
    | true =>
      cases hu with
      | int z =>
        refine iteT ⟨_, rfl, _, rfl, v, z, t, rfl, hv, hdp, by decide, fun hn H1 e1 => hN _ _ ⟨.non, rfl, e1, .inl ⟨rfl, fun z' hz' => by cases hz'; exact hn⟩⟩, fun hin p wy H1 e1 hto hp => hN _ _ ⟨.ref p, rfl, e1, .inr ⟨p, wy, z, rfl, rfl, hin, hto, hp⟩⟩⟩
      | _ => cases hI
  rintro σ H1 ⟨x, rfl, e1, hx⟩
  refine ⟨_, rfl, rfl, _, rfl, ?_⟩
  rcases hx with ⟨rfl, hn⟩ | ⟨p, wy, z, rfl, rfl, hin, hto, hp⟩
  · exact iteT ⟨_, rfl, raise_init fun dd hd => kE hn dd _ (e1.trans (same_upd _ hd)) upd_same⟩
  · exact iteF ⟨_, rfl, kQ z rfl hin p wy H1 e1 hto hp⟩
theorem nd_sub : ∀ {ps : List Tr} {i : Nat} {p : Tr}, (Tr.helds ps).Nodup → ps[i]? = some p → p.held.Nodup
  | [], _, _, _, h => by simp at h
  | q :: r, 0, p, n, h => by
    simp at h
    rw [Tr.helds] at n
    rw [← h]
    exact (List.nodup_append.mp n).1
  | q :: r, i + 1, p, n, h => by
    rw [Tr.helds] at n
    exact nd_sub (ps := r) (i := i) (List.nodup_append.mp n).2.1 (by simpa using h)
theorem nd_parts {z : Int} : ∀ {ps : List Tr} {i j : Nat} {p q : Tr}, (Tr.helds ps).Nodup → ps[i]? = some p → ps[j]? = some q → z ∈ p.held → z ∈ q.held → i = j
  | [], _, _, _, _, _, h, _, _, _ => by simp at h
  | a :: r, 0, 0, _, _, _, _, _, _, _ => rfl
  | a :: r, 0, j + 1, p, q, n, h1, h2, z1, z2 => by
    simp at h1
    rw [Tr.helds] at n
    exact absurd rfl ((List.nodup_append.mp n).2.2 z (by rw [h1]; exact z1) z (mem_part (ps := r) (i := j) (by simpa using h2) z2))
  | a :: r, i + 1, 0, p, q, n, h1, h2, z1, z2 => by
    simp at h2
    rw [Tr.helds] at n
    exact absurd rfl ((List.nodup_append.mp n).2.2 z (by rw [h2]; exact z2) z (mem_part (ps := r) (i := i) (by simpa using h1) z1))
  | a :: r, i + 1, j + 1, p, q, n, h1, h2, z1, z2 => by
    rw [Tr.helds] at n
    rw [nd_parts (ps := r) (i := i) (j := j) (List.nodup_append.mp n).2.1 (by simpa using h1) (by simpa using h2) z1 z2]
theorem held_to {z : Int} : ∀ {w : List Int} {t : Tr}, toward t w = some (.b z) → z ∈ t.held
  | [], t, h => by
    rw [toward_nil] at h
    cases h
    rw [Tr.held]
    exact List.mem_singleton.mpr rfl
  | i :: w, .b _, h => by
    rw [toward] at h
    cases h
  | i :: w, .t k ps, h => by
    obtain ⟨h0, p, hp, hr⟩ := toward_cons h
    rw [Tr.held]
    exact mem_part hp (held_to hr)

/-! ### no_worse as the code tells it -/
theorem sl_go {K : PySem.W.Frag} {H : Hp} {p : Addr} {zs : List Int} {i : Int} {Q : VK} (hp : H p = some (.tup (zs.map V.int)))
    (k : ∀ (p' : Addr) (H' : Hp), Same H H' → H' p' = some (.tup ((zs.take (HT.sIx zs.length zs.length (some i))).map V.int)) → Q (.ref p') H') : rSlA K (.ref p) none (some i) H Q := by
  refine ⟨p, _, rfl, SqT.of hp, fun h => k p H (Same.refl _) ?_, fun _ p3 hp3 => k p3 _ (same_upd _ hp3) ?_⟩
  · have h2 := h.2
    rw [List.length_map] at h2
    rw [h2, List.take_length]
    exact hp
  · rw [upd_same]
    unfold cutV
    rw [HT.sIx_none, List.drop_zero, Nat.sub_zero, List.length_map, List.map_take]
theorem way_same {x y : Int} {t : Tr} {w v : List Int} (n : t.held.Nodup) (h1 : toward t w = some (.b x)) (h2 : toward t v = some (.b y)) :
    decide (v.take (HT.sIx v.length v.length (some ((w.length : Int) - 1))) = w.take (HT.sIx w.length w.length (some (-1)))) = true ↔ x = y ∨ Nw x y t := by
  have e2 : HT.sIx w.length w.length (some (-1)) = w.length - 1 := by
    show (if (-1 : Int) < 0 then ((-1 : Int) + (w.length : Int)).toNat else min (-1 : Int).toNat w.length) = w.length - 1
    rw [if_pos (by decide)]
    omega
  rw [e2, decide_eq_true_iff]
  by_cases ne : x = y
  · subst ne
    have hv : v = w := way_one n h2 h1
    subst hv
    refine ⟨fun _ => .inl rfl, fun _ => ?_⟩
    have e1 : HT.sIx v.length v.length (some ((v.length : Int) - 1)) = v.length - 1 := by
      show (if (v.length : Int) - 1 < 0 then ((v.length : Int) - 1 + (v.length : Int)).toNat else min ((v.length : Int) - 1).toNat v.length) = v.length - 1
      split <;> omega
    rw [e1]
  · have hw : 1 ≤ w.length := by
      cases w with
      | nil =>
        rw [toward_nil] at h1
        cases h1
        have := toward_in h2
        rw [Tr.held, List.mem_singleton] at this
        exact absurd this.symm ne
      | cons i w => simp
    have e1 : HT.sIx v.length v.length (some ((w.length : Int) - 1)) = min (w.length - 1) v.length := by
      show (if (w.length : Int) - 1 < 0 then ((w.length : Int) - 1 + (v.length : Int)).toNat else min ((w.length : Int) - 1).toNat v.length) = min (w.length - 1) v.length
      rw [if_neg (by omega)]
      omega
    rw [e1, ← way_nw ne n h1 h2, show v.take (min (w.length - 1) v.length) = v.take (w.length - 1) from (by
      by_cases c : w.length - 1 ≤ v.length
      · rw [Nat.min_eq_left c]
      · rw [Nat.min_eq_right (by omega), List.take_length, List.take_of_length_le (by omega)])]
    exact ⟨fun h => .inr h, fun h => h.elim (fun z => absurd z ne) id⟩
def spNoWorse (C : Addr) : Sp := fun vs H Q E => ∃ (X : Addr → Prop) (v u1 u2 : V) (t : Tr) (d1 d2 : PyData), vs = [v, u1, u2] ∧ At H v t ∧ t.ok ∧ t.held.Nodup ∧ t.deep < 50 ∧ t.held.length ≤ 100 ∧ AtX X H u1 d1 ∧ AtX X H u2 d2 ∧
  (∀ x y, d1 = .int x → d2 = .int y → x ∈ t.held → y ∈ t.held → ∀ (b : Bool) (H' : Hp), Same H H' → (b = true ↔ x = y ∨ Nw x y (tell t)) → Q (.bl b) H') ∧
  ((∀ z, d1 = .int z → z ∉ t.held) → ∀ (dd : Addr) (H' : Hp), Same H H' → H' dd = some (.xd [("given", u1)]) → E (.ref C) (some dd) H') ∧
  ((∃ x, d1 = .int x ∧ x ∈ t.held) → (∀ z, d2 = .int z → z ∉ t.held) → ∀ (dd : Addr) (H' : Hp), Same H H' → H' dd = some (.xd [("given", u2)]) → E (.ref C) (some dd) H')
theorem ok_no_worse (T : Cd K mg) : FnOk P w K mg base (L2.CX P w) 67 T.a_no_worse T.d_no_worse p_no_worse (spNoWorse T.c_NoButton) := by
  have nd : (n_no_worse : List Str).Nodup := sc_no_worse.nd
  have G_told : FnOk P w K mg base CX0 66 T.a_told T.d_told p_told (spTold 60) := ok_told T 60
  have G_way_to : FnOk P w K mg base (L2.CX P w) 64 T.a_way_to T.d_way_to p_way_to (spWayTo T.c_NoButton) := ok_way_to T
  refine T.F_no_worse.okX sc_no_worse (fun vs H Q E h => ?_) (fun cdv A outer s H vs Q E hr h => ?_)
  · obtain ⟨X, v, u1, u2, t, d1, d2, rfl, _⟩ := h
    rfl
  obtain ⟨X, v, u1, u2, t, d1, d2, rfl, hv, hok, hnd, hdp, hl, hu1, hu2, k, kE1, kE2⟩ := h
  have hu64 := hr.units
  refine ⟨_, (pss_cons (ps_set (i := 0) nd rfl (Or.inl rfl) (pe_call G_told (hr.mono (by decide)) rfl T.m_told T.F_told.kp T.b_told .nil pass0 (pa_cons (pv 0) pa_nil)))
      (pss_cons (ps_par (i := 3) (j := 4) (by rfl) nd rfl rfl (by decide) rfl rfl (pa_cons (pe_callS G_way_to (hr.mono (by decide)) rfl T.m_way_to T.F_way_to.kp T.b_way_to (fun σ => passAt (takes_of rfl rfl rfl rfl) σ) (pa_cons (pv 0) (pa_cons (pv 1) pa_nil))) (pa_cons (pe_callS G_way_to (hr.mono (by decide)) rfl T.m_way_to T.F_way_to.kp T.b_way_to (fun σ => passAt (takes_of rfl rfl rfl rfl) σ) (pa_cons (pv 0) (pa_cons (pv 2) pa_nil))) pa_nil)) (by rfl))
      (pss_one (ps_ret (pe_cmpR (op_eqD hu64) (pe_slice sl_tupA (pv 4) po_none (po_some (pe_op op_sub (pe_callB call_len_seq (by rfl) T.z_len (by decide +kernel) (pa_cons (pv 3) pa_nil)) pe_int))) (pe_slice sl_tupA (pv 3) po_none (po_some (pe_un un_neg pe_int))) (nomark _)))))), ?_⟩
  refine ⟨_, rfl, v, t, rfl, hv, hok, by omega, hl, fun v' H1 e1 hv' => ?_⟩
  have hlk := tell_like t hok
  have hmem : ∀ z, z ∈ (tell t).held ↔ z ∈ t.held := fun z => hlk.held.mem_iff
  have hnt : (tell t).held.Nodup := hlk.held.nodup_iff.mpr hnd
  have hdt := hlk.deep
  dsimp only [gName]
  refine ⟨_, rfl, _, rfl, X, v', u1, tell t, d1, rfl, hv', by omega, hu1.same e1, fun x hx1 hx2 p1 w1 H2 e2 ht1 hp1 => ?_, fun hno dd H2 e2 hdd => kE1 (fun z hz hzt => hno z hz ((hmem z).mpr hzt)) dd H2 (e1.trans e2) hdd⟩
  refine ⟨_, rfl, _, rfl, X, v', u2, tell t, d2, rfl, hv'.same e2, by omega, hu2.same (e1.trans e2), fun y hy1 hy2 p2 w2 H3 e3 ht2 hp2 => ?_, fun hno dd H3 e3 hdd => kE2 ⟨x, hx1, (hmem x).mp hx2⟩ (fun z hz hzt => hno z hz ((hmem z).mpr hzt)) dd H3 (e1.trans (e2.trans e3)) hdd⟩
  have hp13 := e3 _ _ hp1
  refine ⟨_, _, rfl, ?_⟩
  dsimp only [gName]
  refine ⟨_, rfl, _, rfl, p1, _, rfl, .inr (SqT.of hp13), _, _, rfl, rfl, _, rfl, ?_⟩
  rw [List.length_map]
  refine sl_go hp2 fun p3 H4 e4 hp3 => ?_
  refine ⟨_, rfl, _, rfl, _, rfl, ?_⟩
  refine sl_go (e4 _ _ hp13) fun p4 H5 e5 hp4 => ?_
  refine ⟨.tuple _, .tuple _, .tup (SqT.of (e5 _ _ hp3)) (dpAll_ints _), .tup (SqT.of hp4) (dpAll_ints _), shaped_tints _, shaped_tints _, ?_⟩
  rw [PyData.eqv, Own.eqv_ints]
  exact k x y hx1 hy1 ((hmem x).mp hx2) ((hmem y).mp hy2) _ H5 (e1.trans (e2.trans (e3.trans (e4.trans e5)))) (way_same hnt ht1 ht2)

mutual
theorem depth_tr : ∀ t : Tr, t.d.depth ≤ 2 * t.deep
  | .b i => by simp [Tr.d, PyData.depth]
  | .t k ps => by
    have := depth_trs ps
    rw [Tr.d, Tr.deep]
    simp only [PyData.depth, PyData.depthAll]
    omega
theorem depth_trs : ∀ ps : List Tr, PyData.depthAll (Tr.ds ps) ≤ 2 * Tr.deeps ps
  | [] => by simp [Tr.ds, PyData.depthAll]
  | p :: r => by
    have h1 := depth_tr p
    have h2 := depth_trs r
    rw [Tr.ds, Tr.deeps]
    simp only [PyData.depthAll]
    omega
end
mutual
theorem lay_tr : ∀ t : Tr, t.d.canLay0 = true
  | .b i => by simp [Tr.d, PyData.canLay0]
  | .t k ps => by simp [Tr.d, PyData.canLay0, PyData.canLayAll0, lay_trs ps]
theorem lay_trs : ∀ ps : List Tr, PyData.canLayAll0 (Tr.ds ps) = true
  | [] => by simp [Tr.ds, PyData.canLayAll0]
  | p :: r => by simp [Tr.ds, PyData.canLayAll0, lay_tr p, lay_trs r]
end
/-! ### trees mixed -/
theorem shaped_ds {ps : List Tr} (h : Tr.deeps ps ≤ 24) : SeqAt.shaped (.list (Tr.ds ps)) = true := by
  unfold SeqAt.shaped
  rw [Bool.and_eq_true]
  refine ⟨by rw [PyData.canLay0]; exact lay_trs ps, decide_eq_true ?_⟩
  have := depth_trs ps
  rw [PyData.depth]
  omega
theorem eqv_ds (ps : List Tr) : PyData.eqv (.list (Tr.ds ps)) (.list []) = decide (ps = []) := by
  cases ps with
  | nil => simp [Tr.ds, PyData.eqv, PyData.eqvAll]
  | cons p r => simp [Tr.ds, PyData.eqv, PyData.eqvAll]
theorem erase_permT {α : Type} : ∀ {R : List α} {k : Nat} {z : α}, R[k]? = some z → (z :: R.eraseIdx k).Perm R
  | [], _, _, h => by simp at h
  | a :: R, 0, z, h => by
    simp at h
    subst h
    exact List.Perm.refl _
  | a :: R, k + 1, z, h => by
    have ih := erase_permT (R := R) (k := k) (z := z) (by simpa using h)
    rw [List.eraseIdx_cons_succ]
    exact (List.Perm.swap a z _).trans (ih.cons a)
theorem perm_stepT {α : Type} {F R L : List α} {k : Nat} {z : α} (h : (F ++ R).Perm L) (hz : R[k]? = some z) : ((F ++ [z]) ++ R.eraseIdx k).Perm L := by
  rw [List.append_assoc]
  exact (List.Perm.append_left F (erase_permT hz)).trans h
theorem erase_fst {α β : Type} : ∀ (R : List (α × β)) (k : Nat), (R.map Prod.fst).eraseIdx k = (R.eraseIdx k).map Prod.fst
  | [], _ => rfl
  | _ :: _, 0 => rfl
  | a :: R, k + 1 => by
    rw [List.map_cons, List.eraseIdx_cons_succ, List.eraseIdx_cons_succ, List.map_cons, erase_fst R k]
theorem dp_trs {K : PySem.W.Frag} {H : Hp} : ∀ {R : List (V × Tr)}, (∀ x ∈ R, At H x.1 x.2) → DpAll K H (R.map Prod.fst) (Tr.ds (R.map Prod.snd))
  | [], _ => .nil
  | x :: R, h => .cons (h x List.mem_cons_self).dp (dp_trs fun y hy => h y (List.mem_cons_of_mem _ hy))
theorem deeps_of : ∀ {R : List (V × Tr)}, (∀ x ∈ R, x.2.deep ≤ 20) → Tr.deeps (R.map Prod.snd) ≤ 24
  | [], _ => Nat.zero_le _
  | x :: R, h => by
    have h1 := h x List.mem_cons_self
    have h2 := deeps_of (R := R) fun y hy => h y (List.mem_cons_of_mem _ hy)
    rw [List.map_cons, Tr.deeps]
    omega
def spMixedT : Sp := fun vs H Q _ => ∃ (b g l : Addr) (L : List (V × Tr)), vs = [.ref b, .ref l] ∧ Bag H b g ∧ H l = some (.lst (L.map Prod.fst)) ∧ (∀ x ∈ L, At H x.1 x.2) ∧ (∀ x ∈ L, x.2.deep ≤ 20) ∧ L.length ≤ 1000 ∧
  ∀ (p : Addr) (M : List (V × Tr)) (H' : Hp), M.Perm L → Keep b g H H' → Bag H' b g → H p = none → H' p = some (.lst (M.map Prod.fst)) → Q (.ref p) H'
theorem ok__law_mixedT (T : Cd K mg) : FnOk P w K mg base CX0 2 T.a__law_mixed T.d__law_mixed p__law_mixed spMixedT := by
  have nd : (n__law_mixed : List Str).Nodup := sc__law_mixed.nd
  have G__law_draw : FnOk P w K mg base CX0 1 T.a__law_draw T.d__law_draw p__law_draw spDraw := ok__law_draw T
  refine T.F__law_mixed.ok sc__law_mixed (fun vs H Q E h => ?_) (fun cdv A outer s H vs Q E hr h => ?_)
  · obtain ⟨b, g, l, L, rfl, _⟩ := h
    rfl
  obtain ⟨b, g, l, L, rfl, B, hl, hAt, hDp, hlen, k⟩ := h
  have hu64 := hr.units
  refine ⟨_, (pss_cons (ps_par (i := 2) (j := 3) (by rfl) nd rfl rfl (by decide) rfl rfl (pa_cons (pe_callTy call_list_of (by rfl) T.z_list (by decide +kernel) (pa_cons (pv 1) pa_nil)) (pa_cons (pe_lst pa_nil) pa_nil)) (by rfl))
      (pss_cons (ps_while PassesOwn.never (pt_cmpR (op_neD hu64) (pv 2) (pe_lst pa_nil) (nomark _))
        (pss_one (ps_expr (pe_bm PySem.F.plainAttrs_list PySem.F.slot_list_append PySem.F.type_list_append mt_append (pv 3) (pa_cons (pe_bm PySem.F.plainAttrs_list PySem.F.slot_list_pop PySem.F.type_list_pop mt_popAt (pv 2) (pa_cons (pe_call G__law_draw (hr.mono (by decide)) rfl T.m__law_draw T.F__law_draw.kp T.b__law_draw .nil pass0 (pa_cons (pv 0) (pa_cons (pe_callB call_len_seq (by rfl) T.z_len (by decide +kernel) (pa_cons (pv 2) pa_nil)) pa_nil))) pa_nil)) pa_nil)))))
      (pss_one (ps_ret (pv 3))))), ?_⟩
  refine ⟨_, rfl, l, _, rfl, .inl (SqL.of hl), fun q hq => ⟨(by show 0 ≤ sizeLine; decide), fun f hf => ⟨_, _, rfl, ?_⟩⟩⟩
  have e1 : Same H (upd H q (.lst (L.map Prod.fst))) := same_upd _ hq
  have e2 : Same H (upd (upd H q (.lst (L.map Prod.fst))) f (.lst [])) := same_upd2 _ e1 (e1.free hf)
  have hfH := e1.free hf
  have nfq : q ≠ f := ne_of_none upd_same hf
  have oq := B.off hq
  have of' := B.off hfH
  refine ⟨fun m σ H' => ∃ R F : List (V × Tr), σ = [some (.ref b), some (.ref l), some (.ref q), some (.ref f)] ∧ Keep b g H H' ∧ Bag H' b g ∧ m = R.length ∧ (F ++ R).Perm L ∧ H' q = some (.lst (R.map Prod.fst)) ∧ H' f = some (.lst (F.map Prod.fst)),
    ⟨_, L, [], rfl, .same e2, B.same e2, rfl, List.Perm.refl _, by rw [upd_ne nfq, upd_same], upd_same⟩, ?_⟩
  rintro m σ H' ⟨R, F, rfl, kp, B', rfl, hperm, hR, hF⟩
  have hsz : F.length + R.length = L.length := by rw [← List.length_append]; exact hperm.length_eq
  refine ⟨_, rfl, (by show 0 ≤ sizeLine; decide), fun p hp => ?_⟩
  have e3 : Same H' (upd H' p (.lst [])) := same_upd _ hp
  have hRin : ∀ x ∈ R, x ∈ L := fun x hx => hperm.mem_iff.mp (List.mem_append.mpr (.inr hx))
  have hdpR := dp_trs (K := K) (R := R) fun x hx => (hAt x (hRin x hx)).mono ((kp.kt B).trans (KT.of e3))
  refine ⟨_, _, .lst (SqL.of (e3 _ _ hR)) hdpR, .lst (SqL.of upd_same) .nil, shaped_ds (deeps_of fun x hx => hDp x (hRin x hx)), shaped_nil, _, rfl, ?_⟩
  rw [eqv_ds, show decide (R.map Prod.snd = []) = decide (R = []) from by congr 1; exact propext List.map_eq_nil_iff]
  by_cases hn : R = []
  · rw [decide_eq_true hn]
    subst hn
    rw [List.append_nil] at hperm
    exact iteF ⟨_, rfl, k f F _ hperm (kp.new _ hp) (B'.same e3) hfH (e3 _ _ hF)⟩
  · rw [decide_eq_false hn]
    have hpos : 0 < R.length := List.length_pos_iff.mpr hn
    refine iteT ⟨fun σ' H2 => ∃ R' F' : List (V × Tr), σ' = [some (.ref b), some (.ref l), some (.ref q), some (.ref f)] ∧ Keep b g H H2 ∧ Bag H2 b g ∧ R'.length < R.length ∧ (F' ++ R').Perm L ∧ H2 q = some (.lst (R'.map Prod.fst)) ∧ H2 f = some (.lst (F'.map Prod.fst)), ?_, ?_⟩
    · rintro σ' H2 ⟨R', F', rfl, k2, B2, hl2, hp2, h1, h2⟩
      exact ⟨_, hl2, R', F', rfl, k2, B2, rfl, hp2, h1, h2⟩
    · have B3 := B'.same e3
      refine ⟨_, rfl, .inl ⟨rfl, _, SqL.of (e3 _ _ hF)⟩, _, rfl, .inl ⟨rfl, _, SqL.of (e3 _ _ hR)⟩, _, rfl, _, rfl, q, _, rfl, .inl (SqL.of (e3 _ _ hR)), b, g, _, rfl, B3, ?_, ?_, fun r H4 r0 r1 k4 B4 => ?_⟩
      · rw [List.length_map]
        omega
      · rw [List.length_map]
        omega
      rw [List.length_map] at r1
      have q4 := k4 q _ oq.1 oq.2 (e3 _ _ hR)
      have f4 := k4 f _ of'.1 of'.2 (e3 _ _ hF)
      have hz : R[r.toNat]? = some R[r.toNat] := List.getElem?_eq_getElem (by omega)
      refine ⟨q, _, r, r.toNat, R[r.toNat].1, rfl, rfl, q4, by omega, by omega, ?_, ?_, f, F.map Prod.fst, _, rfl, rfl, ?_, ?_, ?_⟩
      · rw [List.length_map]
        exact seqIndex_of r0 r1
      · rw [List.getElem?_map, hz]
        rfl
      · rw [upd_ne nfq.symm]
        exact f4
      · rw [List.length_map]
        exact Nat.lt_of_le_of_lt (m := 1000) (by omega) (by decide)
      · have kk : Keep b g H (upd (upd H4 q (.lst ((R.map Prod.fst).eraseIdx r.toNat))) f (.lst (F.map Prod.fst ++ [R[r.toNat].1]))) := by
          intro c o n1 n2 hc
          rw [upd_ne (ne_of_none hc hfH), upd_ne (ne_of_none hc hq)]
          exact (kp.trans ((Keep.same e3).trans k4)) c o n1 n2 hc
        have BB : Bag (upd (upd H4 q (.lst ((R.map Prod.fst).eraseIdx r.toNat))) f (.lst (F.map Prod.fst ++ [R[r.toNat].1]))) b g := by
          obtain ⟨ms, m, t, h1, h2, h3⟩ := B4.ex
          exact ⟨ms, m, t, by rw [upd_ne of'.1.symm, upd_ne oq.1.symm]; exact h1, by rw [upd_ne of'.2.symm, upd_ne oq.2.symm]; exact h2, h3⟩
        refine ⟨R.eraseIdx r.toNat, F ++ [R[r.toNat]], rfl, kk, BB, ?_, perm_stepT hperm hz, ?_, ?_⟩
        · rw [List.length_eraseIdx_of_lt (by omega)]
          omega
        · rw [upd_ne nfq, upd_same, erase_fst]
        · rw [upd_same, List.map_append]
          rfl

def spButtonsOf (n : Nat) : Sp := fun vs H Q _ => ∃ (v : V) (t : Tr), vs = [v] ∧ At H v t ∧ t.deep < n ∧ t.held.length ≤ 60 ∧ ∀ (p : Addr) (L : List Int) (H' : Hp), Same H H' → L.Perm t.held → L.Pairwise (· ≤ ·) → H' p = some (.tup (L.map V.int)) → Q (.ref p) H'
theorem ok_buttons_of (T : Cd K mg) : ∀ n, FnOk P w K mg base CX0 (n + 2) T.a_buttons_of T.d_buttons_of p_buttons_of (spButtonsOf n)
  | 0 => by
    have no : ∀ vs H Q E, ¬ spButtonsOf 0 vs H Q E := fun vs H Q E h => by
      obtain ⟨v, t, _, _, h, _⟩ := h
      omega
    exact ⟨fun vs H Q E h => absurd h (no vs H Q E), fun A outer s H args us vs Q E _ _ _ _ h => absurd h (no vs H Q E)⟩
  | n + 1 => by
    have G_buttons_of : FnOk P w K mg base CX0 (n + 2) T.a_buttons_of T.d_buttons_of p_buttons_of (spButtonsOf n) := ok_buttons_of T n
    have G_is_trip : FnOk P w K mg base CX0 1 T.a_is_trip T.d_is_trip p_is_trip spIsTrip := ok_is_trip T
    have nd : (n_buttons_of : List Str).Nodup := sc_buttons_of.nd
    refine T.F_buttons_of.ok sc_buttons_of (fun vs H Q E h => ?_) (fun cdv A outer s H vs Q E hr h => ?_)
    · obtain ⟨v, t, rfl, _⟩ := h
      rfl
    obtain ⟨v, t, rfl, hv, hd, hl, k⟩ := h
    refine ⟨_, (pss_cons (ps_if (pt_not (pt_val (pe_call G_is_trip (hr.mono (by omega)) rfl T.m_is_trip T.F_is_trip.kp T.b_is_trip .nil pass0 (pa_cons (pv 0) pa_nil)))) (pss_one (ps_ret (pe_tup (pa_cons (pv 0) pa_nil)))) pss_nil)
      (pss_cons (ps_set (i := 1) nd rfl (Or.inl rfl) (pe_lst pa_nil))
      (pss_cons (ps_for PassesOwn.never rfl (pi_tup (pe_ix ix_tup (pv 0) pe_int (fun _ _ => rfl))) (pg_name (i := 2) nd rfl (Or.inl rfl))
        (pss_one (ps_expr (pe_bm PySem.F.plainAttrs_list PySem.F.slot_list_extend PySem.F.type_list_extend mt_extendT (pv 1) (pa_cons (pe_call G_buttons_of (hr.mono (by omega)) rfl T.m_buttons_of T.F_buttons_of.kp T.b_buttons_of .nil pass0 (pa_cons (pv 2) pa_nil)) pa_nil)))))
      (pss_one (ps_ret (pe_callTy (T := "tuple") call_tuple_of (by rfl) T.z_tuple (by decide +kernel) (pa_cons (pe_callB cr_sorted (by rfl) T.z_sorted (by decide +kernel) (pa_cons (pv 1) pa_nil)) pa_nil))))))), ?_⟩
    refine ⟨_, rfl, v, t, rfl, hv, _, rfl, ?_⟩
    cases hv with
    | b i =>
      refine iteT ⟨_, rfl, (by show 1 ≤ sizeLine; decide), fun p hp => k p [i] _ (same_upd _ hp) ?_ (List.pairwise_singleton _ _) upd_same⟩
      rw [Tr.held]
    | @t a p kk ws ps h1 h2 h3 h4 =>
      have hlw := h3.length
      rw [Tr.deep] at hd
      rw [Tr.held] at hl k
      refine iteF ⟨(by show 0 ≤ sizeLine; decide), fun f hf => ?_⟩
      have e1 : Same H (upd H f (.lst [])) := same_upd _ hf
      refine ⟨_, rfl, a, _, 1, .ref p, rfl, rfl, SqT.of (e1 _ _ h1), rfl, p, rfl, ⟨_, SqT.of (e1 _ _ h2)⟩, ?_⟩
      refine for_tup (K := K) (a := p) (xs := ws) (fun i σ H' => ∃ (x2 : Option V) (L : List Int), σ = [some (.ref a), some (.ref f), x2] ∧ Same H H' ∧ H' f = some (.lst (L.map V.int)) ∧ L.Perm (Tr.helds (ps.take i))) ?_ ?_ ?_ ?_
      · exact ⟨none, [], rfl, e1, upd_same, by rw [List.take_zero, Tr.helds]⟩
      · rintro i σ H' _ ⟨x2, L, rfl, e, _⟩
        exact SqT.of (e _ _ h2)
      · rintro i x σ H' hx ⟨x2, L, rfl, e, hfl, hp⟩
        obtain ⟨pt, hpt, hat⟩ := h3.get hx
        have hdp := deep_get hpt
        have hhl := sub_len hpt
        have htk := helds_take ps i
        have hLl := hp.length_eq
        refine ⟨_, rfl, .inl ⟨rfl, _, SqL.of hfl⟩, _, rfl, x, pt, rfl, hat.same e, by omega, by omega, fun p2 L2 H2 e2 hp2 _ hpp => ?_⟩
        have hL2 := hp2.length_eq
        refine ⟨f, p2, _, _, rfl, rfl, e2 _ _ hfl, SqT.of hpp, ?_, ?_⟩
        · rw [List.length_map, List.length_map]
          exact Nat.le_trans (m := 1000) (by omega) (by decide)
        refine ⟨_, L ++ L2, rfl, same_upd2 _ (e.trans e2) hf, ?_, ?_⟩
        · rw [upd_same, List.map_append]
        · rw [take_snoc hpt, helds_snoc]
          exact hp.append hp2
      · rintro σ H' ⟨x2, L, rfl, e, hfl, hp⟩
        rw [hlw, List.take_length] at hp
        have hLl := hp.length_eq
        refine ⟨_, rfl, f, L, rfl, SqL.of hfl, by omega, fun L2 p2 hp2 hs2 hpn => ⟨p2, _, rfl, .inl ⟨SqL.of upd_same, fun p3 hp3 => ?_⟩⟩⟩
        exact k p3 L2 _ (e.trans ((same_upd _ hpn).trans (same_upd _ hp3))) (hp2.trans hp) hs2 upd_same

/-! ### going, contrary -/
def spGoes (K : PySem.W.Frag) (n : Nat) : Sp := fun vs H Q _ => ∃ (v : V) (q : Addr) (t : Tr) (L : List Int), vs = [v, .ref q] ∧ At H v t ∧ Sq K H q L ∧ t.deep < n ∧ ∀ H', Same H H' → Q (.bl (t.go L)) H'
theorem ok_goes (T : Cd K mg) : ∀ n, FnOk P w K mg base CX0 (n + 2) T.a_goes T.d_goes p_goes (spGoes K n)
  | 0 => by
    have no : ∀ vs H Q E, ¬ spGoes K 0 vs H Q E := fun vs H Q E h => by
      obtain ⟨v, q, t, L, _, _, _, h, _⟩ := h
      omega
    exact ⟨fun vs H Q E h => absurd h (no vs H Q E), fun A outer s H args us vs Q E _ _ _ _ h => absurd h (no vs H Q E)⟩
  | n + 1 => by
    have G_goes : FnOk P w K mg base CX0 (n + 2) T.a_goes T.d_goes p_goes (spGoes K n) := ok_goes T n
    have G_is_trip : FnOk P w K mg base CX0 1 T.a_is_trip T.d_is_trip p_is_trip spIsTrip := ok_is_trip T
    have nd : (n_goes : List Str).Nodup := sc_goes.nd
    refine T.F_goes.ok sc_goes (fun vs H Q E h => ?_) (fun cdv A outer s H vs Q E hr h => ?_)
    · obtain ⟨v, q, t, L, rfl, _⟩ := h
      rfl
    obtain ⟨v, q, t, L, rfl, hv, hq, hd, k⟩ := h
    refine ⟨_, (pss_cons (ps_if (pt_not (pt_val (pe_call G_is_trip (hr.mono (by omega)) rfl T.m_is_trip T.F_is_trip.kp T.b_is_trip .nil pass0 (pa_cons (pv 0) pa_nil)))) (pss_one (ps_ret (pe_cmpR op_in_seq (pv 0) (pv 1) rfl))) pss_nil)
      (pss_cons (ps_asg (pv 0) (pg_tup rfl (pgs_cons (pg_name (i := 2) nd rfl (Or.inl rfl)) (pgs_cons (pg_name (i := 3) nd rfl (Or.inl rfl)) pgs_nil))))
      (pss_one (ps_ret (pe_cmpR op_ge (pe_callB call_len_seq (by rfl) T.z_len (by decide +kernel) (pa_cons (pe_lc (own := [("part", 4)]) rfl nd (pi_tup (pv 3)) (blkOk_by (own := [("part", 4)]) (N := n_goes) (sc := defScope s_goes) (by decide +kernel)) (fun _ _ _ _ _ => (pg_name (i := 4) nd rfl (Or.inl rfl))) (fun _ _ _ _ _ => (pts_one (pt_val (pe_call G_goes (hr.mono (by omega)) rfl T.m_goes T.F_goes.kp T.b_goes .nil pass0 (pa_cons (pv 4) (pa_cons (pv 1) pa_nil)))))) (fun _ _ _ _ _ => (pv 4))) pa_nil)) (pv 2) (nomark _)))))), ?_⟩
    refine ⟨_, rfl, v, t, rfl, hv, _, rfl, ?_⟩
    cases hv with
    | b i =>
      refine iteT ?_
      refine ⟨_, rfl, _, rfl, q, _, rfl, hq, rfl, flat_ints L, ?_⟩
      rw [if_neg Bool.false_ne_true, in_ints, ← Tr.go]
      exact k H (Same.refl H)
    | @t a p kk ws ps h1 h2 h3 h4 =>
      refine iteF ?_
      refine ⟨_, rfl, a, _, rfl, SqT.of h1, rfl, _, _, rfl, _, _, rfl, rfl, ?_⟩
      refine ⟨_, rfl, p, rfl, ⟨_, SqT.of h2⟩, fun D hD => ?_⟩
      have e0 : Same H (upd H D (.lst [])) := same_upd _ hD
      refine lc_tup (K := K) (a := p) (xs := ws) (fun i H' => Same H H' ∧ ∃ acc, H' D = some (.lst acc) ∧ acc.length = Tr.cnt L (ps.take i)) ?_ ?_ ?_ ?_
      · exact ⟨e0, [], upd_same, by rw [List.take_zero, Tr.cnt]; rfl⟩
      · rintro i H' _ ⟨e, _⟩
        exact SqT.of (e _ _ h2)
      · rintro i x H' hx ⟨e, acc, hacc, hl⟩
        obtain ⟨pt, hpt, hat⟩ := h3.get hx
        have hc : Tr.cnt L (ps.take (i + 1)) = Tr.cnt L (ps.take i) + (if pt.go L = true then 1 else 0) := by rw [take_snoc hpt, cnt_snoc]
        have hdp := deep_get hpt
        rw [Tr.deep] at hd
        refine ⟨rfl, _, rfl, _, rfl, x, q, pt, L, rfl, hat.same e, hq.same e, by omega, fun H'' e2 => ?_⟩
        refine ⟨_, rfl, ?_⟩
        have hi : i < ws.length := (List.getElem?_eq_some_iff.mp hx).1
        have small : Tr.cnt L (ps.take i) ≤ i := by
          have cle : ∀ l : List Tr, Tr.cnt L l ≤ l.length := by
            intro l
            induction l with
            | nil => simp [Tr.cnt]
            | cons a l ih =>
              rw [Tr.cnt, List.length_cons]
              split <;> omega
          exact Nat.le_trans (cle _) (by rw [List.length_take]; omega)
        cases hg : pt.go L with
        | true =>
          refine iteT ⟨_, rfl, acc, e2 _ _ hacc, Nat.lt_of_le_of_lt (m := 1000) (by omega) (by decide), ?_, ?_⟩
          · exact same_upd2 _ (e.trans e2) hD
          · refine ⟨_, upd_same, ?_⟩
            rw [List.length_append, hl, hc, hg]
            rfl
        | false =>
          refine iteF ⟨e.trans e2, acc, e2 _ _ hacc, ?_⟩
          rw [hl, hc, hg]
          simp
      · rintro H' ⟨e, acc, hacc, hl⟩
        rw [h3.length, List.take_length] at hl
        refine ⟨D, acc, rfl, .inl (SqL.of hacc), _, rfl, _, _, rfl, rfl, ?_⟩
        have eg : Tr.go L (.t kk ps) = decide (((acc.length : Nat) : Int) ≥ kk) := by rw [Tr.go, hl]
        rw [eg] at k
        exact k H' e
/-! ### lots -/
def lessOf (b : Int) (L : List Int) : List Int := L.filter fun x => !decide (x = b)
theorem filter_snoc {L : List Int} {i : Nat} {z : Int} (p : Int → Bool) (h : L[i]? = some z) : (L.take (i + 1)).filter p = (L.take i).filter p ++ (if p z = true then [z] else []) := by
  rw [take_snoc h, List.filter_append]
  simp [List.filter]
  cases p z <;> rfl
def spWithout (K : PySem.W.Frag) : Sp := fun vs H Q _ => ∃ (q : Addr) (b : Int) (L : List Int), vs = [.ref q, .int b] ∧ SqT K H q (L.map V.int) ∧ L.length ≤ 1000 ∧
  ∀ (p : Addr) (H' : Hp), H p = none → Same H H' → H' p = some (.tup ((lessOf b L).map V.int)) → Q (.ref p) H'
theorem ok_without_button (T : Cd K mg) : FnOk P w K mg base CX0 1 T.a_without_button T.d_without_button p_without_button (spWithout K) := by
  have nd : (n_without_button : List Str).Nodup := sc_without_button.nd
  refine T.F_without_button.ok sc_without_button (fun vs H Q E h => ?_) (fun cdv A outer s H vs Q E hr h => ?_)
  · obtain ⟨q, b, L, rfl, _⟩ := h
    rfl
  obtain ⟨q, b, L, rfl, hq, hL, k⟩ := h
  refine ⟨_, (pss_one (ps_ret (pe_callTy (T := "tuple") call_tuple_of (by rfl) T.z_tuple (by decide +kernel) (pa_cons (pe_lc (own := [("other", 2)]) rfl nd (pi_tup (pv 0)) (blkOk_by (own := [("other", 2)]) (N := n_without_button) (sc := defScope s_without_button) (by decide +kernel)) (fun _ _ _ _ _ => (pg_name (i := 2) nd rfl (Or.inl rfl))) (fun _ _ _ _ _ => (pts_one (pt_cmpR op_ne (pv 2) (pv 1) (nomark _)))) (fun _ _ _ _ _ => (pv 2))) pa_nil)))), ?_⟩
  refine ⟨_, rfl, q, rfl, ⟨_, hq⟩, fun D hD => ?_⟩
  refine lc_tup (K := K) (a := q) (xs := L.map V.int) (fun i H' => Same H H' ∧ H' D = some (.lst ((lessOf b (L.take i)).map V.int))) ⟨same_upd _ hD, upd_same⟩ (fun i H' _ ⟨e, _⟩ => sqT_same e hq) ?_ ?_
  · rintro i x H' hx ⟨e, hacc⟩
    obtain ⟨z, hz, rfl⟩ := get_ints hx
    have hi : i < L.length := (List.getElem?_eq_some_iff.mp hz).1
    have hs : lessOf b (L.take (i + 1)) = lessOf b (L.take i) ++ (if (!decide (z = b)) = true then [z] else []) := filter_snoc _ hz
    refine ⟨rfl, _, rfl, _, rfl, rfl, _, rfl, ?_⟩
    rw [ne_ints]
    have hlen : (lessOf b (L.take i)).length ≤ i := by
      refine Nat.le_trans (List.length_filter_le _ _) ?_
      rw [List.length_take]
      omega
    cases hc : (!decide (z = b)) with
    | true =>
      refine iteT ⟨_, rfl, _, hacc, ?_, same_upd2 _ e hD, ?_⟩
      · rw [List.length_map]
        exact Nat.lt_of_le_of_lt (m := 1000) (by omega) (by decide)
      · rw [upd_same, hs, hc, List.map_append]
        rfl
    | false =>
      refine iteF ⟨e, ?_⟩
      rw [hacc, hs, hc]
      simp
  · rintro H' ⟨e, hacc⟩
    rw [List.length_map, List.take_length] at hacc
    refine ⟨D, _, rfl, .inl ⟨SqL.of hacc, fun l hl => ?_⟩⟩
    exact k l _ (e.free hl) (same_upd2 _ e (e.free hl)) upd_same
theorem ok__law_goes (T : Cd K mg) : ∀ n, FnOk P w K mg base CX0 (n + 2) T.a__law_goes T.d__law_goes p__law_goes (spGoes K n)
  | 0 => by
    have no : ∀ vs H Q E, ¬ spGoes K 0 vs H Q E := fun vs H Q E h => by
      obtain ⟨v, q, t, L, _, _, _, h, _⟩ := h
      omega
    exact ⟨fun vs H Q E h => absurd h (no vs H Q E), fun A outer s H args us vs Q E _ _ _ _ h => absurd h (no vs H Q E)⟩
  | n + 1 => by
    have G__law_goes : FnOk P w K mg base CX0 (n + 2) T.a__law_goes T.d__law_goes p__law_goes (spGoes K n) := ok__law_goes T n
    have nd : (n__law_goes : List Str).Nodup := sc__law_goes.nd
    refine T.F__law_goes.ok sc__law_goes (fun vs H Q E h => ?_) (fun cdv A outer s H vs Q E hr h => ?_)
    · obtain ⟨v, q, t, L, rfl, _⟩ := h
      rfl
    obtain ⟨v, q, t, L, rfl, hv, hq, hd, k⟩ := h
    refine ⟨_, (pss_cons (ps_if (pt_val (pe_callB call_isi (by rfl) T.z_isinstance (by decide +kernel) (pa_cons (pv 0) (pa_cons (pe_bltn (v := .ty "int") (u := .type "int") rfl T.z_int (by decide +kernel) rfl) pa_nil)))) (pss_one (ps_ret (pe_cmpR op_in_seq (pv 0) (pv 1) rfl))) pss_nil)
      (pss_one (ps_ret (pe_cmpR op_ge (pe_callB call_len_seq (by rfl) T.z_len (by decide +kernel) (pa_cons (pe_lc (own := [("_law_part", 2)]) rfl nd (pi_tup (pe_ix ix_tup (pv 0) pe_int (fun _ _ => rfl))) (blkOk_by (own := [("_law_part", 2)]) (N := n__law_goes) (sc := defScope s__law_goes) (by decide +kernel)) (fun _ _ _ _ _ => (pg_name (i := 2) nd rfl (Or.inl rfl))) (fun _ _ _ _ _ => (pts_one (pt_val (pe_call G__law_goes (hr.mono (by omega)) rfl T.m__law_goes T.F__law_goes.kp T.b__law_goes .nil pass0 (pa_cons (pv 2) (pa_cons (pv 1) pa_nil)))))) (fun _ _ _ _ _ => pe_int)) pa_nil)) (pe_ix ix_tup (pv 0) pe_int (fun _ _ => rfl)) (nomark _))))), ?_⟩
    obtain ⟨ty, t1, t2, t3⟩ := hv.kind (K := K)
    refine ⟨_, rfl, _, _, _, _, _, rfl, .ty "int", t1, kit_ty t3, _, rfl, ?_⟩
    cases hv with
    | b i =>
      refine iteT ?_
      refine ⟨_, rfl, _, rfl, q, _, rfl, hq, rfl, flat_ints L, ?_⟩
      rw [if_neg Bool.false_ne_true, in_ints, ← Tr.go]
      exact k H (Same.refl H)
    | @t a p kk ws ps h1 h2 h3 h4 =>
      refine iteF ?_
      refine ⟨_, rfl, a, _, 1, .ref p, rfl, rfl, SqT.of h1, rfl, p, rfl, ⟨_, SqT.of h2⟩, fun D hD => ?_⟩
      have e0 : Same H (upd H D (.lst [])) := same_upd _ hD
      refine lc_tup (K := K) (a := p) (xs := ws) (fun i H' => Same H H' ∧ ∃ acc, H' D = some (.lst acc) ∧ acc.length = Tr.cnt L (ps.take i)) ?_ ?_ ?_ ?_
      · exact ⟨e0, [], upd_same, by rw [List.take_zero, Tr.cnt]; rfl⟩
      · rintro i H' _ ⟨e, _⟩
        exact SqT.of (e _ _ h2)
      · rintro i x H' hx ⟨e, acc, hacc, hl⟩
        obtain ⟨pt, hpt, hat⟩ := h3.get hx
        have hc : Tr.cnt L (ps.take (i + 1)) = Tr.cnt L (ps.take i) + (if pt.go L = true then 1 else 0) := by rw [take_snoc hpt, cnt_snoc]
        have hdp := deep_get hpt
        rw [Tr.deep] at hd
        refine ⟨rfl, _, rfl, _, rfl, x, q, pt, L, rfl, hat.same e, hq.same e, by omega, fun H'' e2 => ?_⟩
        refine ⟨_, rfl, ?_⟩
        have hi : i < ws.length := (List.getElem?_eq_some_iff.mp hx).1
        have small : Tr.cnt L (ps.take i) ≤ i := Nat.le_trans (cnt_le L _) (by rw [List.length_take]; omega)
        cases hg : pt.go L with
        | true =>
          refine iteT ⟨acc, e2 _ _ hacc, Nat.lt_of_le_of_lt (m := 1000) (by omega) (by decide), same_upd2 _ (e.trans e2) hD, _, upd_same, ?_⟩
          rw [List.length_append, hl, hc, hg]
          rfl
        | false =>
          refine iteF ⟨e.trans e2, acc, e2 _ _ hacc, ?_⟩
          rw [hl, hc, hg]
          simp
      · rintro H' ⟨e, acc, hacc, hl⟩
        rw [h3.length, List.take_length] at hl
        refine ⟨D, acc, rfl, .inl (SqL.of hacc), _, rfl, a, _, 0, _, rfl, rfl, SqT.of (e _ _ h1), rfl, _, _, rfl, rfl, ?_⟩
        have eg : Tr.go L (.t kk ps) = decide (((acc.length : Nat) : Int) ≥ kk) := by rw [Tr.go, hl]
        rw [eg] at k
        exact k H' e

/-! ### parts whose places are not named; places alike; one short of going -/
def spBesides : Sp := fun vs H Q _ => ∃ (p q : Addr) (ws : List V) (ps : List Tr) (I : List Int), vs = [.ref p, .ref q] ∧ H p = some (.tup ws) ∧ Ats H ws ps ∧ ws.length ≤ 1000 ∧ H q = some (.tup (I.map V.int)) ∧
  ∀ (D : Addr) (us : List V) (H' : Hp), Same H H' → H D = none → H' D = some (.lst us) → Ats H' us (bes I 0 ps) → Q (.ref D) H'
theorem bes_len {I : List Int} : ∀ (ps : List Tr) (n : Nat), (bes I n ps).length ≤ ps.length
  | [], _ => Nat.le_refl _
  | p :: r, n => by
    rw [bes, List.length_append, List.length_cons]
    have := bes_len (I := I) r (n + 1)
    split <;> simp <;> omega
theorem ok__besides (T : Cd K mg) : FnOk P w K mg base CX0 1 T.a__besides T.d__besides p__besides spBesides := by
  have nd : (n__besides : List Str).Nodup := sc__besides.nd
  refine T.F__besides.ok sc__besides (fun vs H Q E h => ?_) (fun cdv A outer s H vs Q E hr h => ?_)
  · obtain ⟨p, q, ws, ps, I, rfl, _⟩ := h
    rfl
  obtain ⟨p, q, ws, ps, I, rfl, hp, hat, hwl, hq, k⟩ := h
  have hu64 := hr.units
  have hlw := hat.length
  refine ⟨_, (pss_one (ps_ret (pe_lc (own := [("place", 2), ("part", 3)]) rfl nd (pi_enumT (by rfl) T.z_enumerate (pa_cons (pv 0) pa_nil)) (blkOk_by (own := [("place", 2), ("part", 3)]) (N := n__besides) (sc := defScope s__besides) (by decide +kernel)) (fun _ _ _ _ _ => (pg_tupK (K := K) 2 rfl rfl (pgs_cons (pg_name (i := 2) nd rfl (Or.inl rfl) (Or.inr rfl)) (pgs_cons (pg_name (i := 3) nd rfl (Or.inl rfl) (Or.inr rfl)) pgs_nil)))) (fun _ _ _ _ _ => (pts_one (pt_cmpR (show OpR _ (compareOp .NotIn) (rIn K true) from op_notIn_seq) (pv 2) (pv 1) rfl))) (fun _ _ _ _ _ => (pv 3))))), ?_⟩
  refine ⟨_, rfl, p, ws, rfl, SqT.of hp, fun D hD => ?_⟩
  refine lc_it (J := IteT K p) (walk_enumT (xs := ws)) (fun i H' => Same H H' ∧ ∃ acc : List V, H' D = some (.lst acc) ∧ Ats H' acc (bes I 0 (ps.take i))) ⟨same_upd _ hD, [], upd_same, by rw [List.take_zero]; exact .nil⟩ ?_ ?_ ?_
  · rintro i H' _ ⟨e, _⟩
    exact SqT.of (e _ _ hp)
  · rintro i x H1 _ hi ⟨e, acc, hacc, hX⟩ ⟨Tu, xi, yi, rfl, hTn, rfl, hxi, hyi⟩
    cases hxi
    obtain ⟨pt, hpt, hpa⟩ := hat.get hyi
    have hi' := (List.getElem?_eq_some_iff.mp hpt).1
    have e7 := same_upd (.tup [.int (i : Nat), yi]) hTn
    have hT7 : upd H1 Tu (.tup [.int (i : Nat), yi]) Tu = some (.tup [.int (i : Nat), yi]) := upd_same
    have hacc7 := e7 _ _ hacc
    have e07 := e.trans e7
    have hX7 := hX.same e7
    generalize upd H1 Tu (.tup [.int (i : Nat), yi]) = H7 at e7 hT7 hacc7 e07 hX7 ⊢
    have hst : bes I 0 (ps.take (i + 1)) = bes I 0 (ps.take i) ++ (if ((i : Nat) : Int) ∈ I then [] else [pt]) := by
      rw [take_snoc hpt, bes_snoc, List.length_take, Nat.min_eq_left (Nat.le_of_lt hi'), Nat.zero_add]
    have hal : acc.length ≤ 1000 := by
      have h5 := hX.length
      have h6 := bes_len (I := I) (ps.take i) 0
      rw [List.length_take] at h6
      omega
    refine ⟨Tu, _, rfl, SqT.of hT7, rfl, _, _, rfl, _, _, rfl, rfl, rfl, ?_⟩
    refine ⟨_, rfl, _, rfl, q, _, rfl, .inr (SqT.of (e07 _ _ hq)), rfl, flat_ints I, ?_⟩
    rw [if_pos rfl, in_ints]
    by_cases c : ((i : Nat) : Int) ∈ I
    · rw [decide_eq_true c]
      rw [if_pos c, List.append_nil] at hst
      exact ⟨_, rfl, iteF ⟨e07, acc, hacc7, by rw [hst]; exact hX7⟩⟩
    · rw [decide_eq_false c]
      rw [if_neg c] at hst
      refine ⟨_, rfl, iteT ⟨_, rfl, acc, hacc7, Nat.lt_of_le_of_lt hal (by decide), same_upd2 _ e07 hD, _, upd_same, ?_⟩⟩
      rw [hst]
      exact (hX7.append (.cons (hpa.same e07) .nil)).mono (kt_lst hacc7)
  · rintro H1 ⟨e, acc, hacc, hX⟩
    rw [hlw, List.take_length] at hX
    exact k D acc H1 e hD hacc hX
def spAlike : Sp := fun vs H Q _ => ∃ (p q : Addr) (w v : List Int) (n : Nat) (i j : Int), vs = [.ref p, .ref q] ∧ H p = some (.tup (w.map V.int)) ∧ H q = some (.tup (v.map V.int)) ∧ w.take n = v.take n ∧ w[n]? = some i ∧ v[n]? = some j ∧ i ≠ j ∧ n ≤ 1000 ∧ Q (.int (n : Int)) H
theorem ok__places_alike (T : Cd K mg) : FnOk P w K mg base CX0 1 T.a__places_alike T.d__places_alike p__places_alike spAlike := by
  have nd : (n__places_alike : List Str).Nodup := sc__places_alike.nd
  refine T.F__places_alike.ok sc__places_alike (fun vs H Q E h => ?_) (fun cdv A outer s H vs Q E hr h => ?_)
  · obtain ⟨p, q, w, v, n, i, j, rfl, _⟩ := h
    rfl
  obtain ⟨p, q, w, v, n, i, j, rfl, hp, hq, ht, hi, hj, hij, hn, k⟩ := h
  refine ⟨_, (pss_cons (ps_set (i := 2) nd rfl (Or.inl rfl) pe_int)
      (pss_cons (ps_while PassesOwn.never (pt_cmpR op_eq (pe_ix ix_tup (pv 0) (pv 2) (fun _ _ => rfl)) (pe_ix ix_tup (pv 1) (pv 2) (fun _ _ => rfl)) (nomark _))
        (pss_one (ps_aug (i := 2) nd rfl (Or.inl rfl) pe_int ip_add)))
      (pss_one (ps_ret (pv 2))))), ?_⟩
  refine ⟨fun m σ H' => ∃ a : Nat, σ = [some (.ref p), some (.ref q), some (.int (a : Int))] ∧ H' = H ∧ a ≤ n ∧ m = n - a, ⟨_, 0, rfl, rfl, Nat.zero_le _, rfl⟩, ?_⟩
  rintro m σ H' ⟨a, rfl, rfl, han, rfl⟩
  by_cases e : a = n
  · subst e
    refine ⟨_, rfl, _, rfl, p, _, _, _, rfl, rfl, SqT.of hp, atI_nat (map_at (f := V.int) hi), ?_⟩
    refine ⟨_, rfl, _, rfl, q, _, _, _, rfl, rfl, SqT.of hq, atI_nat (map_at (f := V.int) hj), rfl, _, rfl, ?_⟩
    rw [decide_eq_false fun z => hij (V.int.inj z)]
    exact iteF ⟨_, rfl, k⟩
  · have hlt : a < n := by omega
    obtain ⟨c, hc, hc2⟩ : ∃ c : Int, w[a]? = some c ∧ v[a]? = some c := by
      have hw := (List.getElem?_eq_some_iff.mp hi).1
      have h1 : (w.take n)[a]? = w[a]? := by rw [List.getElem?_take, if_pos hlt]
      have h2 : (v.take n)[a]? = v[a]? := by rw [List.getElem?_take, if_pos hlt]
      refine ⟨w[a], List.getElem?_eq_getElem (by omega), ?_⟩
      rw [← h2, ← ht, h1]
      exact List.getElem?_eq_getElem (by omega)
    refine ⟨_, rfl, _, rfl, p, _, _, _, rfl, rfl, SqT.of hp, atI_nat (map_at (f := V.int) hc), ?_⟩
    refine ⟨_, rfl, _, rfl, q, _, _, _, rfl, rfl, SqT.of hq, atI_nat (map_at (f := V.int) hc2), rfl, _, rfl, ?_⟩
    rw [decide_eq_true rfl]
    refine iteT ⟨fun σ' H2 => σ' = [some (.ref p), some (.ref q), some (.int ((a : Int) + 1))] ∧ H2 = H', ?_, ?_⟩
    · rintro σ' H2 ⟨rfl, rfl⟩
      exact ⟨n - (a + 1), by omega, a + 1, rfl, rfl, by omega, rfl⟩
    · exact ⟨_, rfl, _, _, rfl, rfl, rfl, rfl⟩

/-- the parts pressed, one by one: how a list grows by buttons_of -/
theorem cut_take (us : List V) {z : Int} (h : 0 ≤ z) : cutV us none (some z) = us.take z.toNat := by
  unfold cutV
  show List.take (HT.sIx us.length us.length (some z) - 0) us = _
  obtain ⟨n, rfl⟩ := Int.eq_ofNat_of_zero_le h
  rw [HT.sIx_nat, Nat.sub_zero, Int.toNat_natCast]
  rcases Nat.le_total n us.length with c | c
  · rw [Nat.min_eq_left c]
  · rw [Nat.min_eq_right c, List.take_length, List.take_of_length_le c]
theorem take_len {R : List Tr} (m : Nat) : (Tr.helds (R.take m)).length ≤ (Tr.helds R).length := by
  have := congrArg List.length (helds_take_drop R m)
  rw [List.length_append] at this
  omega
theorem bes_helds {I : List Int} : ∀ (ps : List Tr) (n : Nat), (Tr.helds (bes I n ps)).length ≤ (Tr.helds ps).length
  | [], _ => Nat.le_refl _
  | p :: r, n => by
    have := bes_helds (I := I) r (n + 1)
    rw [bes, Tr.helds, List.length_append]
    split
    · rw [List.nil_append]
      omega
    · rw [List.cons_append, List.nil_append, Tr.helds, List.length_append]
      omega
theorem short_len : ∀ (w : List Int) (t u : Tr), toward t w = some u → (shortL w t).length + u.held.length ≤ t.held.length
  | [], t, u, h => by
    rw [toward_nil] at h
    cases h
    simp [shortL]
  | i :: w, .b z, u, h => by
    rw [toward] at h
    cases h
  | i :: w, .t k ps, u, h => by
    obtain ⟨i0, p, hp, hr⟩ := toward_cons h
    have ih := short_len w p u hr
    have hR := (helds_perm (bes_one i0 hp)).length_eq
    rw [Tr.helds, List.length_append] at hR
    have ht := take_len (R := bes [i] 0 ps) (k - 1).toNat
    have e : shortL (i :: w) (.t k ps) = Tr.helds ((bes [i] 0 ps).take (k - 1).toNat) ++ shortL w p := by rw [shortL, hp]
    rw [e, List.length_append, Tr.held]
    omega
theorem toward_some_step {w : List Int} {t u s : Tr} {a : Nat} {i : Int} (h : toward t w = some u) (hs : toward t (w.take a) = some s) (hi : w[a]? = some i) : ∃ k ps p, s = .t k ps ∧ 0 ≤ i ∧ ps[i.toNat]? = some p ∧ toward t (w.take (a + 1)) = some p := by
  induction a generalizing w t with
  | zero =>
    rw [List.take_zero, toward_nil] at hs
    cases hs
    cases w with
    | nil => simp at hi
    | cons c r =>
      simp at hi
      subst hi
      cases s with
      | b z =>
        rw [toward] at h
        cases h
      | t k ps =>
        obtain ⟨i0, p, hp, _⟩ := toward_cons h
        refine ⟨k, ps, p, rfl, i0, hp, ?_⟩
        rw [List.take_succ_cons, List.take_zero, toward, if_pos i0, hp]
        exact toward_nil p
  | succ a ih =>
    cases w with
    | nil => simp at hi
    | cons c r =>
      cases t with
      | b z =>
        rw [toward] at h
        cases h
      | t k ps =>
        obtain ⟨i0, p, hp, hr⟩ := toward_cons h
        rw [List.take_succ_cons] at hs
        obtain ⟨_, p2, hp2, hs2⟩ := toward_cons hs
        rw [hp] at hp2
        cases hp2
        obtain ⟨k', ps', p', b1, b2, b3, b4⟩ := ih hr hs2 (by simpa using hi)
        refine ⟨k', ps', p', b1, b2, b3, ?_⟩
        rw [List.take_succ_cons, toward, if_pos i0, hp]
        exact b4
theorem toward_deep {w : List Int} : ∀ {t s : Tr}, toward t w = some s → s.deep ≤ t.deep ∧ s.held.length ≤ t.held.length ∧ (t.ok → s.ok) ∧ (∀ z ∈ s.held, z ∈ t.held) := by
  induction w with
  | nil =>
    intro t s h
    rw [toward_nil] at h
    cases h
    exact ⟨Nat.le_refl _, Nat.le_refl _, id, fun _ h => h⟩
  | cons i w ih =>
    intro t s h
    cases t with
    | b z =>
      rw [toward] at h
      cases h
    | t k ps =>
      obtain ⟨i0, p, hp, hr⟩ := toward_cons h
      obtain ⟨h1, h2, h3, h4⟩ := ih hr
      have hd := deep_get hp
      have hl := (helds_perm (bes_one i0 hp)).length_eq
      rw [Tr.helds, List.length_append] at hl
      refine ⟨by rw [Tr.deep]; omega, by rw [Tr.held]; omega, fun o => h3 ?_, fun z hz => ?_⟩
      · rw [Tr.ok] at o
        exact oks_all.mp o.2.2 p (List.mem_of_getElem? hp)
      · rw [Tr.held]
        exact in_helds (List.mem_of_getElem? hp) (h4 z hz)
def KeepF (f : Addr) (H H' : Hp) : Prop := ∀ a o, a ≠ f → H a = some o → H' a = some o
theorem KeepF.trans {f : Addr} {H H1 H2 : Hp} (x : KeepF f H H1) (y : KeepF f H1 H2) : KeepF f H H2 := fun a o n h => y a o n (x a o n h)
theorem KeepF.of {f : Addr} {H H' : Hp} (e : Same H H') : KeepF f H H' := fun a o _ h => e a o h
theorem KeepF.kt {f : Addr} {H H' : Hp} {xs : List V} (hf : H f = some (.lst xs)) (k : KeepF f H H') : KT H H' := fun a ys h => k a _ (fun z => by rw [z, hf] at h; cases h) h
theorem KeepF.put {f : Addr} {H H' : Hp} {o : HO} (k : KeepF f H H') : KeepF f H (upd H' f o) := fun a u n h => by
  rw [upd_ne n]
  exact k a u n h
theorem KeepF.same {f : Addr} {H0 H H' : Hp} (h0 : H0 f = none) (e : Same H0 H) (k : KeepF f H H') : Same H0 H' := fun a o h => k a o (fun z => by rw [z, h0] at h; cases h) (e a o h)
def spOneShort : Sp := fun vs H Q _ => ∃ (v : V) (q : Addr) (t u : Tr) (w : List Int), vs = [v, .ref q] ∧ At H v t ∧ t.ok ∧ t.deep < 60 ∧ t.held.length ≤ 60 ∧ H q = some (.tup (w.map V.int)) ∧ toward t w = some u ∧
  ∀ (f : Addr) (L : List Int) (H' : Hp), Same H H' → H f = none → H' f = some (.lst (L.map V.int)) → L.Perm (shortL w t) → Q (.ref f) H'
theorem ok__one_short (T : Cd K mg) : FnOk P w K mg base CX0 63 T.a__one_short T.d__one_short p__one_short spOneShort := by
  have nd : (n__one_short : List Str).Nodup := sc__one_short.nd
  have G_buttons_of : FnOk P w K mg base CX0 62 T.a_buttons_of T.d_buttons_of p_buttons_of (spButtonsOf 60) := ok_buttons_of T 60
  have G__besides : FnOk P w K mg base CX0 1 T.a__besides T.d__besides p__besides spBesides := ok__besides T
  refine T.F__one_short.ok sc__one_short (fun vs H Q E h => ?_) (fun cdv A outer s H vs Q E hr h => ?_)
  · obtain ⟨v, q, t, u, w, rfl, _⟩ := h
    rfl
  obtain ⟨v, q, t, u, w, rfl, hv, hok, hd, hl, hq, hto, k⟩ := h
  have hu64 := hr.units
  have hsl := short_len w t u hto
  refine ⟨_, (pss_cons (ps_set (i := 2) nd rfl (Or.inl rfl) (pe_lst pa_nil))
      (pss_cons (ps_set (i := 3) nd rfl (Or.inl rfl) (pv 0))
      (pss_cons (ps_for PassesOwn.never rfl (pi_tup (pv 1)) (pg_name (i := 4) nd rfl (Or.inl rfl))
        (pss_cons (ps_asg (pv 3) (pg_tup rfl (pgs_cons (pg_name (i := 5) nd rfl (Or.inl rfl)) (pgs_cons (pg_name (i := 6) nd rfl (Or.inl rfl)) pgs_nil))))
      (pss_cons (ps_for PassesOwn.never rfl (pi_list (pe_slice sl_list (pe_call G__besides (hr.mono (by decide)) rfl T.m__besides T.F__besides.kp T.b__besides .nil pass0 (pa_cons (pv 6) (pa_cons (pe_tup (pa_cons (pv 4) pa_nil)) pa_nil))) po_none (po_some (pe_op op_sub (pv 5) pe_int)))) (pg_name (i := 7) nd rfl (Or.inl rfl))
        (pss_one (ps_expr (pe_bm PySem.F.plainAttrs_list PySem.F.slot_list_extend PySem.F.type_list_extend mt_extendT (pv 2) (pa_cons (pe_call G_buttons_of (hr.mono (by decide)) rfl T.m_buttons_of T.F_buttons_of.kp T.b_buttons_of .nil pass0 (pa_cons (pv 7) pa_nil)) pa_nil)))))
      (pss_one (ps_set (i := 3) nd rfl (Or.inl rfl) (pe_ix ix_tup (pv 6) (pv 4) (fun _ _ => rfl)))))))
      (pss_one (ps_ret (pv 2)))))), ?_⟩
  refine ⟨(by show 0 ≤ sizeLine; decide), fun f hf => ?_⟩
  have e1 := same_upd (.lst []) hf
  have hf1 : upd H f (.lst []) f = some (.lst (([] : List Int).map V.int)) := upd_same
  generalize upd H f (.lst []) = H1 at e1 hf1 ⊢
  refine ⟨_, rfl, ?_⟩
  refine ⟨_, rfl, q, rfl, ⟨_, SqT.of (e1 _ _ hq)⟩, ?_⟩
  refine for_tup (K := K) (a := q) (xs := w.map V.int) (fun a σ H' => ∃ (y : V) (s : Tr) (x4 x5 x6 x7 : Option V) (L A : List Int), σ = [some v, some (.ref q), some (.ref f), some y, x4, x5, x6, x7] ∧ Same H H' ∧ H' f = some (.lst (L.map V.int)) ∧ At H' y s ∧ toward t (w.take a) = some s ∧ shortL w t = A ++ shortL (w.drop a) s ∧ L.Perm A) ?_ ?_ ?_ ?_
  · exact ⟨v, t, none, none, none, none, [], [], rfl, e1, hf1, hv.same e1, toward_nil t, rfl, List.Perm.refl _⟩
  · rintro a σ H' _ ⟨y, s, x4, x5, x6, x7, L, A, rfl, e, _⟩
    exact SqT.of (e _ _ hq)
  · rintro a x σ H' hx ⟨y, s, x4, x5, x6, x7, L, A, rfl, e, hfl, hy, hts, hA, hp⟩
    obtain ⟨i, hi, rfl⟩ := get_ints hx
    obtain ⟨kk, ps, p, rfl, i0, hps, hts'⟩ := toward_some_step hto hts hi
    have hst := shortL_step hA rfl hi hps
    obtain ⟨td1, td2, td3, td4⟩ := toward_deep hts
    have sok := td3 hok
    rw [Tr.ok] at sok
    rw [Tr.deep] at td1
    rw [Tr.held] at td2
    have hal : A.length ≤ 60 := by
      have := congrArg List.length hA
      rw [List.length_append] at this
      omega
    cases hy with
    | @t a1 p1 _ ws _ g1 g2 g3 g4 =>
    have hlw := g3.length
    have hLl := hp.length_eq
    dsimp only [gName]
    refine ⟨_, rfl, a1, _, rfl, SqT.of g1, rfl, _, _, rfl, _, _, rfl, rfl, ?_⟩
    refine ⟨_, rfl, ?_⟩
    refine ⟨_, rfl, (by show 1 ≤ sizeLine; decide), fun z1 hz1 => ?_⟩
    have f1 := same_upd (.tup [V.int i]) hz1
    refine ⟨p1, z1, ws, ps, [i], rfl, f1 _ _ g2, g3.same f1, g4, upd_same, fun D us H3 e3 hD0 hD hus => ?_⟩
    have e03 := f1.trans e3
    refine ⟨_, rfl, _, _, rfl, rfl, _, rfl, D, us, rfl, SqL.of hD, fun D2 hD2 => ?_⟩
    rw [cut_take us (by omega)]
    have f4 := same_upd (.lst (us.take (kk - 1).toNat)) hD2
    have hD4 : upd H3 D2 (.lst (us.take (kk - 1).toNat)) D2 = some (.lst (us.take (kk - 1).toNat)) := upd_same
    have hus4 := (hus.take (kk - 1).toNat).same f4
    generalize hH4 : upd H3 D2 (.lst (us.take (kk - 1).toNat)) = H4 at f4 hD4 hus4 ⊢
    have e04 := e03.trans f4
    have hf4 := e04 _ _ hfl
    have nDf : D2 ≠ f := fun z => by
      rw [z, e03 _ _ hfl] at hD2
      cases hD2
    have hbl := bes_helds (I := [i]) ps 0
    have htl := take_len (R := bes [i] 0 ps) (kk - 1).toNat
    have hR := bes_one i0 hps
    have hm := hus4.length
    generalize hB : (bes [i] 0 ps).take (kk - 1).toNat = B at hus4 htl hm hst
    have hBm : ∀ pt ∈ B, pt ∈ ps := fun pt h => bes_mem (List.mem_of_mem_take (hB ▸ h))
    refine ⟨D2, rfl, ⟨_, SqL.of hD4⟩, ?_⟩
    refine for_list (K := K) (a := D2) (xs := us.take (kk - 1).toNat) (fun j σ H' => ∃ (x7 : Option V) (L' : List Int), σ = [some v, some (.ref q), some (.ref f), some (.ref a1), some (.int i), some (.int kk), some (.ref p1), x7] ∧ KeepF f H4 H' ∧ H' f = some (.lst (L'.map V.int)) ∧ L'.Perm (L ++ Tr.helds (B.take j))) ?_ ?_ ?_ ?_
    · exact ⟨x7, L, rfl, fun _ _ _ h => h, hf4, by rw [List.take_zero, Tr.helds, List.append_nil]⟩
    · rintro j σ H5 _ ⟨x7, L', rfl, k5, _⟩
      exact SqL.of (k5 _ _ nDf hD4)
    · rintro j x σ H5 hx ⟨x7, L', rfl, k5, hf5, hp5⟩
      obtain ⟨pt, hpt, hat⟩ := hus4.get hx
      have hptm := hBm pt (List.mem_of_getElem? hpt)
      have hdp := (deeps_le (n := Tr.deeps ps)).mp (Nat.le_refl _) pt hptm
      have hhl := held_len hptm
      have hj := (List.getElem?_eq_some_iff.mp hpt).1
      have hLl5 := hp5.length_eq
      have htl2 := take_len (R := B) j
      rw [List.length_append] at hLl5
      refine ⟨_, rfl, .inl ⟨rfl, _, SqL.of hf5⟩, _, rfl, x, pt, rfl, hat.mono (k5.kt hf4), by omega, by omega, fun p2 L2 H6 e6 hp2 _ hpp => ?_⟩
      have hL2 := hp2.length_eq
      refine ⟨f, p2, _, _, rfl, rfl, e6 _ _ hf5, SqT.of hpp, ?_, ?_⟩
      · rw [List.length_map, List.length_map]
        exact Nat.le_trans (m := 1000) (by omega) (by decide)
      refine ⟨_, L' ++ L2, rfl, (k5.trans (.of e6)).put, by rw [upd_same, List.map_append], ?_⟩
      rw [take_snoc hpt, helds_snoc, ← List.append_assoc]
      exact hp5.append hp2
    · rintro σ H5 ⟨x7, L', rfl, k5, hf5, hp5⟩
      rw [hm, List.take_length] at hp5
      have kt5 := (KT.of e04).trans (k5.kt hf4)
      obtain ⟨vt, hvt⟩ : ∃ vt, ws[i.toNat]? = some vt := by
        have := (List.getElem?_eq_some_iff.mp hps).1
        exact ⟨_, List.getElem?_eq_getElem (by omega)⟩
      obtain ⟨pt, hpt, hat⟩ := g3.get hvt
      rw [hps] at hpt
      cases hpt
      have hvi : atI ws i = some vt := by
        have := atI_nat (j := i.toNat) hvt
        rwa [Int.toNat_of_nonneg i0] at this
      refine ⟨_, rfl, _, rfl, p1, _, _, vt, rfl, rfl, SqT.of (kt5 _ _ g2), hvi, ?_⟩
      exact ⟨vt, p, _, _, _, _, L', A ++ Tr.helds B, rfl, KeepF.same hf (e.trans e04) k5, hf5, hat.mono kt5, hts', hst, hp5.trans (hp.append_right _)⟩
  · rintro σ H' ⟨y, s, x4, x5, x6, x7, L, A, rfl, e, hfl, hy, hts, hA, hp⟩
    rw [List.length_map] at hA
    have : shortL (w.drop w.length) s = [] := by
      rw [List.drop_length]
      cases s <;> rfl
    rw [this, List.append_nil] at hA
    exact ⟨_, rfl, k f L H' e hf hfl (by rw [hA]; exact hp)⟩

/-! ### the lot that shows it *--/
theorem slA_go {K : PySem.W.Frag} {H : Hp} {p : Addr} {xs : List V} {lo hi : Option Int} {Q : VK} (hp : H p = some (.tup xs))
    (k : ∀ (p' : Addr) (H' : Hp), Same H H' → H' p' = some (.tup (cutV xs lo hi)) → Q (.ref p') H') : rSlA K (.ref p) lo hi H Q := by
  refine ⟨p, _, rfl, SqT.of hp, fun h => k p H (Same.refl _) ?_, fun _ p3 hp3 => k p3 _ (same_upd _ hp3) upd_same⟩
  unfold cutV
  rw [h.1, h.2, List.drop_zero, Nat.sub_zero, List.take_length]
  exact hp
theorem cut_hi (zs : List Int) (n : Nat) : cutV (zs.map V.int) none (some (n : Int)) = (zs.take n).map V.int := by
  rw [cut_take _ (by omega), Int.toNat_natCast, List.map_take]
theorem cut_lo (zs : List Int) (n : Nat) : cutV (zs.map V.int) (some (n : Int)) none = (zs.drop n).map V.int := by
  unfold cutV
  rw [HT.sIx_nat, List.map_drop]
  show List.take (_ - min n _) _ = _
  rcases Nat.le_total n (zs.map V.int).length with c | c
  · rw [Nat.min_eq_left c, HT.sIx_none, List.take_of_length_le (by rw [List.length_drop]; exact Nat.le_refl _)]
  · rw [Nat.min_eq_right c, List.drop_length, List.drop_eq_nil_of_le c, List.take_nil]
theorem toward_len : ∀ {w : List Int} {t s : Tr}, toward t w = some s → w.length ≤ t.deep
  | [], _, _, _ => Nat.zero_le _
  | i :: w, .b z, _, h => by
    rw [toward] at h
    cases h
  | i :: w, .t k ps, s, h => by
    obtain ⟨_, p, hp, hr⟩ := toward_cons h
    have := toward_len hr
    have := deep_get hp
    rw [Tr.deep, List.length_cons]
    omega
theorem atx_ints {X : Addr → Prop} {H : Hp} : ∀ w : List Int, AtXs X H (w.map V.int) (w.map PyData.int)
  | [] => .nil
  | z :: w => .cons (.int z) (atx_ints w)
theorem ats_at {H : Hp} {ws : List V} {ps : List Tr} {i : Int} {p : Tr} (h : Ats H ws ps) (i0 : 0 ≤ i) (hp : ps[i.toNat]? = some p) : ∃ v, atI ws i = some v ∧ At H v p := by
  have hl := h.length
  have hi := (List.getElem?_eq_some_iff.mp hp).1
  obtain ⟨pt, hpt, hat⟩ := h.get (i := i.toNat) (v := ws[i.toNat]'(by omega)) (List.getElem?_eq_getElem (by omega))
  rw [hp] at hpt
  cases hpt
  refine ⟨_, ?_, hat⟩
  have := atI_nat (xs := ws) (j := i.toNat) (List.getElem?_eq_getElem (by omega))
  rwa [Int.toNat_of_nonneg i0] at this
theorem red_toward : ∀ {w : List Int} {t s : Tr}, redd t → toward t w = some s → redd s
  | [], t, s, r, h => by
    rw [toward_nil] at h
    cases h
    exact r
  | i :: w, .b z, _, _, h => by
    rw [toward] at h
    cases h
  | i :: w, .t k ps, s, r, h => by
    obtain ⟨_, p, hp, hr⟩ := toward_cons h
    rw [redd] at r
    exact red_toward (redds_all.mp r.2.2 p (List.mem_of_getElem? hp)) hr
theorem nodup_toward : ∀ {w : List Int} {t s : Tr}, t.held.Nodup → toward t w = some s → s.held.Nodup
  | [], t, s, r, h => by
    rw [toward_nil] at h
    cases h
    exact r
  | i :: w, .b z, _, _, h => by
    rw [toward] at h
    cases h
  | i :: w, .t k ps, s, r, h => by
    obtain ⟨_, p, hp, hr⟩ := toward_cons h
    rw [Tr.held] at r
    exact nodup_toward (nodup_of (List.mem_of_getElem? hp) r) hr
theorem nw_toward {x y : Int} : ∀ {w : List Int} {t s : Tr}, toward t w = some s → Nw x y s → Nw x y t
  | [], t, s, h, k => by
    rw [toward_nil] at h
    cases h
    exact k
  | i :: w, .b z, _, h, _ => by
    rw [toward] at h
    cases h
  | i :: w, .t k ps, s, h, kk => by
    obtain ⟨_, p, hp, hr⟩ := toward_cons h
    have := nw_toward hr kk
    exact .deep (List.mem_of_getElem? hp) this.both.1 this.both.2 this
def spWorse (C : Addr) : Sp := fun vs H Q E => ∃ (X : Addr → Prop) (v u1 u2 : V) (t : Tr) (d1 d2 : PyData), vs = [v, u1, u2] ∧ At H v t ∧ t.ok ∧ t.held.Nodup ∧ t.deep < 50 ∧ t.held.length ≤ 60 ∧ AtX X H u1 d1 ∧ AtX X H u2 d2 ∧
  (∀ x y, d1 = .int x → d2 = .int y → x ∈ t.held → y ∈ t.held → (x = y ∨ Nw x y (tell t)) → ∀ H' : Hp, Same H H' → Q .non H') ∧
  (∀ x y, d1 = .int x → d2 = .int y → x ∈ t.held → y ∈ t.held → ¬ (x = y ∨ Nw x y (tell t)) → ∀ (p : Addr) (L w w' : List Int) (H' : Hp), Same H H' → H' p = some (.tup (L.map V.int)) → L.Pairwise (· ≤ ·) → toward (tell t) w = some (.b x) → toward (tell t) w' = some (.b y) → L.Perm (worseL w w' (tell t) x) → Q (.ref p) H') ∧
  ((∀ z, d1 = .int z → z ∉ t.held) → ∀ (dd : Addr) (H' : Hp), Same H H' → H' dd = some (.xd [("given", u1)]) → E (.ref C) (some dd) H') ∧
  ((∃ x, d1 = .int x ∧ x ∈ t.held) → (∀ z, d2 = .int z → z ∉ t.held) → ∀ (dd : Addr) (H' : Hp), Same H H' → H' dd = some (.xd [("given", u2)]) → E (.ref C) (some dd) H')
theorem ok_worse_lot (T : Cd K mg) : FnOk P w K mg base (L2.CX P w) 68 T.a_worse_lot T.d_worse_lot p_worse_lot (spWorse T.c_NoButton) := by
  have nd : (n_worse_lot : List Str).Nodup := sc_worse_lot.nd
  have G_told : FnOk P w K mg base CX0 66 T.a_told T.d_told p_told (spTold 60) := ok_told T 60
  have G_way_to : FnOk P w K mg base (L2.CX P w) 64 T.a_way_to T.d_way_to p_way_to (spWayTo T.c_NoButton) := ok_way_to T
  have G_no_worse : FnOk P w K mg base (L2.CX P w) 67 T.a_no_worse T.d_no_worse p_no_worse (spNoWorse T.c_NoButton) := ok_no_worse T
  have G__places_alike : FnOk P w K mg base CX0 1 T.a__places_alike T.d__places_alike p__places_alike spAlike := ok__places_alike T
  have G_part_at : FnOk P w K mg base (L2.CX P w) 4 T.a_part_at T.d_part_at p_part_at (spPartAt T.c_NoPart) := ok_part_at T
  have G__one_short : FnOk P w K mg base CX0 63 T.a__one_short T.d__one_short p__one_short spOneShort := ok__one_short T
  have G__besides : FnOk P w K mg base CX0 1 T.a__besides T.d__besides p__besides spBesides := ok__besides T
  have G_goes : FnOk P w K mg base CX0 62 T.a_goes T.d_goes p_goes (spGoes K 60) := ok_goes T 60
  have G_without_button : FnOk P w K mg base CX0 1 T.a_without_button T.d_without_button p_without_button (spWithout K) := ok_without_button T
  have G_buttons_of : FnOk P w K mg base CX0 62 T.a_buttons_of T.d_buttons_of p_buttons_of (spButtonsOf 60) := ok_buttons_of T 60
  refine T.F_worse_lot.okX sc_worse_lot (fun vs H Q E h => ?_) (fun cdv A outer s H vs Q E hr h => ?_)
  · obtain ⟨X, v, u1, u2, t, d1, d2, rfl, _⟩ := h
    rfl
  obtain ⟨X, v, u1, u2, t, d1, d2, rfl, hv, hok, hnd, hdp, hl, hu1, hu2, k1, k2, kE1, kE2⟩ := h
  have hu64 := hr.units
  refine ⟨_, (pss_cons (ps_if (pt_val (pe_callS G_no_worse (hr.mono (by decide)) rfl T.m_no_worse T.F_no_worse.kp T.b_no_worse (fun σ => passAt (takes_of rfl rfl rfl rfl) σ) (pa_cons (pv 0) (pa_cons (pv 1) (pa_cons (pv 2) pa_nil))))) (pss_one (ps_ret pe_non)) pss_nil)
      (pss_cons (ps_set (i := 0) nd rfl (Or.inl rfl) (pe_call G_told (hr.mono (by decide)) rfl T.m_told T.F_told.kp T.b_told .nil pass0 (pa_cons (pv 0) pa_nil)))
      (pss_cons (ps_par (i := 3) (j := 4) (by rfl) nd rfl rfl (by decide) rfl rfl (pa_cons (pe_callS G_way_to (hr.mono (by decide)) rfl T.m_way_to T.F_way_to.kp T.b_way_to (fun σ => passAt (takes_of rfl rfl rfl rfl) σ) (pa_cons (pv 0) (pa_cons (pv 1) pa_nil))) (pa_cons (pe_callS G_way_to (hr.mono (by decide)) rfl T.m_way_to T.F_way_to.kp T.b_way_to (fun σ => passAt (takes_of rfl rfl rfl rfl) σ) (pa_cons (pv 0) (pa_cons (pv 2) pa_nil))) pa_nil)) (by rfl))
      (pss_cons (ps_set (i := 5) nd rfl (Or.inl rfl) (pe_call G__places_alike (hr.mono (by decide)) rfl T.m__places_alike T.F__places_alike.kp T.b__places_alike .nil pass0 (pa_cons (pv 3) (pa_cons (pv 4) pa_nil))))
      (pss_cons (ps_asg (pe_callS G_part_at (hr.mono (by decide)) rfl T.m_part_at T.F_part_at.kp T.b_part_at (fun σ => passAt (takes_of rfl rfl rfl rfl) σ) (pa_cons (pv 0) (pa_cons (pe_slice sl_tupA (pv 3) po_none (po_some (pv 5))) pa_nil))) (pg_tup rfl (pgs_cons (pg_name (i := 6) nd rfl (Or.inl rfl)) (pgs_cons (pg_name (i := 7) nd rfl (Or.inl rfl)) pgs_nil))))
      (pss_cons (ps_par (i := 8) (j := 9) (by rfl) nd rfl rfl (by decide) rfl rfl (pa_cons (pe_ix ix_tup (pv 7) (pe_ix ix_tup (pv 3) (pv 5) (fun _ _ => rfl)) (fun _ _ => rfl)) (pa_cons (pe_ix ix_tup (pv 7) (pe_ix ix_tup (pv 4) (pv 5) (fun _ _ => rfl)) (fun _ _ => rfl)) pa_nil)) (by rfl))
      (pss_cons (ps_set (i := 10) nd rfl (Or.inl rfl) (pe_op op_cat (pe_call G__one_short (hr.mono (by decide)) rfl T.m__one_short T.F__one_short.kp T.b__one_short .nil pass0 (pa_cons (pv 0) (pa_cons (pe_slice sl_tupA (pv 3) po_none (po_some (pv 5))) pa_nil))) (pe_call G__one_short (hr.mono (by decide)) rfl T.m__one_short T.F__one_short.kp T.b__one_short .nil pass0 (pa_cons (pv 9) (pa_cons (pe_slice sl_tupA (pv 4) (po_some (pe_op op_add (pv 5) pe_int)) po_none) pa_nil)))))
      (pss_cons (ps_set (i := 11) nd rfl (Or.inl rfl) (pe_op op_sub (pv 6) pe_int))
      (pss_cons (ps_if (PW.pt (pw_or (pt_cmpR op_gt (pv 11) (pe_op op_sub (pe_callB call_len_seq (by rfl) T.z_len (by decide +kernel) (pa_cons (pv 7) pa_nil)) pe_int) (nomark _)) (pw_or1 (pt_val (pe_call G_goes (hr.mono (by decide)) rfl T.m_goes T.F_goes.kp T.b_goes .nil pass0 (pa_cons (pv 8) (pa_cons (pe_tup (pa_cons (pv 1) pa_nil)) pa_nil))))))) (pss_cons (ps_expr (pe_bm PySem.F.plainAttrs_list PySem.F.slot_list_extend PySem.F.type_list_extend mt_extendT (pv 10) (pa_cons (pe_call G_without_button (hr.mono (by decide)) rfl T.m_without_button T.F_without_button.kp T.b_without_button .nil pass0 (pa_cons (pe_call G_buttons_of (hr.mono (by decide)) rfl T.m_buttons_of T.F_buttons_of.kp T.b_buttons_of .nil pass0 (pa_cons (pv 8) pa_nil)) (pa_cons (pv 1) pa_nil))) pa_nil)))
      (pss_one (ps_aug (i := 11) nd rfl (Or.inl rfl) pe_int ip_sub))) pss_nil)
      (pss_cons (ps_for (passes_of rfl) rfl (pi_list (pe_slice sl_list (pe_call G__besides (hr.mono (by decide)) rfl T.m__besides T.F__besides.kp T.b__besides .nil pass0 (pa_cons (pv 7) (pa_cons (pe_tup (pa_cons (pe_ix ix_tup (pv 3) (pv 5) (fun _ _ => rfl)) (pa_cons (pe_ix ix_tup (pv 4) (pv 5) (fun _ _ => rfl)) pa_nil))) pa_nil))) po_none (po_some (pv 11)))) (pg_name (i := 12) nd rfl (Or.inl rfl))
        (pss_one (ps_expr (pe_bm PySem.F.plainAttrs_list PySem.F.slot_list_extend PySem.F.type_list_extend mt_extendT (pv 10) (pa_cons (pe_call G_buttons_of (hr.mono (by decide)) rfl T.m_buttons_of T.F_buttons_of.kp T.b_buttons_of .nil pass0 (pa_cons (pv 12) pa_nil)) pa_nil)))))
      (pss_one (ps_ret (pe_callTy (T := "tuple") call_tuple_of (by rfl) T.z_tuple (by decide +kernel) (pa_cons (pe_callB cr_sorted (by rfl) T.z_sorted (by decide +kernel) (pa_cons (pv 10) pa_nil)) pa_nil)))))))))))))), ?_⟩
  have hlk := tell_like t hok
  have hmem : ∀ z, z ∈ (tell t).held ↔ z ∈ t.held := fun z => hlk.held.mem_iff
  have hnt : (tell t).held.Nodup := hlk.held.nodup_iff.mpr hnd
  have hdt := hlk.deep
  have hlt := hlk.held.length_eq
  have rdt := (Fine.told hok hnd).redd
  refine seq_cut (fun σ H' => ∃ x y : Int, σ = [some v, some u1, some u2, none, none, none, none, none, none, none, none, none, none] ∧ Same H H' ∧ d1 = .int x ∧ d2 = .int y ∧ x ∈ t.held ∧ y ∈ t.held ∧ ¬ (x = y ∨ Nw x y (tell t))) (fun N hN => ?_) ?_
  · refine ⟨_, rfl, _, rfl, _, rfl, X, v, u1, u2, t, d1, d2, rfl, hv, hok, hnd, hdp, by omega, hu1, hu2, fun x y ex ey hx hy b H1 e1 hb => ?_, kE1, kE2⟩
    cases b with
    | true => exact ⟨_, rfl, iteT (k1 x y ex ey hx hy (hb.mp rfl) H1 e1)⟩
    | false => exact ⟨_, rfl, iteF (hN _ _ ⟨x, y, rfl, e1, ex, ey, hx, hy, fun z => nomatch hb.mpr z⟩)⟩
  rintro σ H1 ⟨x, y, rfl, e1, rfl, rfl, hx, hy, hno⟩
  have hxt := (hmem x).mpr hx
  have hyt := (hmem y).mpr hy
  have ne : x ≠ y := fun z => hno (.inl z)
  have nw : ¬ Nw x y (tell t) := fun z => hno (.inr z)
  have eu1 : u1 = .int x := by cases hu1; rfl
  have eu2 : u2 = .int y := by cases hu2; rfl
  subst eu1
  subst eu2
  refine ⟨_, rfl, v, t, rfl, hv.same e1, hok, by omega, by omega, fun v' H2 e2 hv' => ?_⟩
  dsimp only [gName]
  refine ⟨_, rfl, _, rfl, X, v', .int x, tell t, .int x, rfl, hv', by omega, .int x, fun _ ez _ p1 w1 H3 e3 ht1 hp1 => ?_, fun hz => absurd hxt (hz x rfl)⟩
  cases ez
  refine ⟨_, rfl, _, rfl, X, v', .int y, tell t, .int y, rfl, hv'.same e3, by omega, .int y, fun _ ez _ p2 w2 H4 e4 ht2 hp2 => ⟨_, _, rfl, ?_⟩, fun hz => absurd hyt (hz y rfl)⟩
  cases ez
  have hp1 := e4 _ _ hp1
  have hv4 := hv'.same (e3.trans e4)
  have e14 := e1.trans (e2.trans (e3.trans e4))
  obtain ⟨n, i, j, kk, ps, p, q, htk, hi, hj, hij, htT, i0, hps, j0, hqs, htp, htq, hworse⟩ := ways_part ne ht1 ht2
  have hn1 := (List.getElem?_eq_some_iff.mp hi).1
  have hwl := toward_len ht1
  dsimp only
  refine ⟨_, rfl, _, rfl, p1, p2, w1, w2, n, i, j, rfl, hp1, hp2, htk, hi, hj, hij, by omega, ?_⟩
  dsimp only [gName]
  refine ⟨_, rfl, _, rfl, _, rfl, _, rfl, slA_go hp1 fun p3 H5 e5 hp3 => ?_⟩
  rw [cut_hi] at hp3
  have hpd : wayD (tell t) (.tuple ((w1.take n).map PyData.int)) = some (.t kk ps) := toward_pathD htT
  refine ⟨X, v', .ref p3, tell t, .tuple ((w1.take n).map PyData.int), rfl, hv4.same e5, .tup hp3 (atx_ints _), fun s hs va H6 e6 hva => ?_, fun hz => by rw [hpd] at hz; cases hz⟩
  rw [hpd] at hs
  cases hs
  obtain ⟨td1, td2, td3, td4⟩ := toward_deep htT
  have sok := td3 hlk.ok
  have srd : redd (.t kk ps) := red_toward rdt htT
  have snd' : (Tr.helds ps).Nodup := by
    have := nodup_toward hnt htT
    rwa [Tr.held] at this
  have sok' := sok
  rw [Tr.ok] at sok'
  rw [Tr.deep] at td1
  rw [Tr.held] at td2
  cases hva with
  | @t a1 q1 _ ws _ g1 g2 g3 g4 =>
  have hlw := g3.length
  have e56 := e5.trans e6
  have hp16 := e56 _ _ hp1
  have hp26 := e56 _ _ hp2
  have hv6 := hv4.same e56
  have at1 : atI (w1.map V.int) (n : Int) = some (.int i) := atI_nat (map_at (f := V.int) hi)
  have at2 : atI (w2.map V.int) (n : Int) = some (.int j) := atI_nat (map_at (f := V.int) hj)
  obtain ⟨vp, hvp, hatp⟩ := ats_at g3 i0 hps
  obtain ⟨vq, hvq, hatq⟩ := ats_at g3 j0 hqs
  have hpm := List.mem_of_getElem? hps
  have hqm := List.mem_of_getElem? hqs
  have hxp := toward_in htp
  have hyq := toward_in htq
  have hpx : p ≠ .b x := fun z => nw (nw_toward htT (.here (z ▸ hpm) (in_helds hqm hyq)))
  have h2p : 2 ≤ ps.length := by
    have h1 := (List.getElem?_eq_some_iff.mp hps).1
    have h2 := (List.getElem?_eq_some_iff.mp hqs).1
    have h3 : i.toNat ≠ j.toNat := fun z => hij (by omega)
    omega
  refine ⟨a1, _, rfl, SqT.of g1, rfl, _, _, rfl, _, _, rfl, rfl, ?_⟩
  dsimp only
  refine ⟨_, rfl, _, rfl, _, rfl, p1, _, _, _, rfl, rfl, SqT.of hp16, at1, q1, ws, i, vp, rfl, rfl, SqT.of g2, hvp, ?_⟩
  refine ⟨_, rfl, _, rfl, _, rfl, p2, _, _, _, rfl, rfl, SqT.of hp26, at2, q1, ws, j, vq, rfl, rfl, SqT.of g2, hvq, _, _, rfl, ?_⟩
  have hdp := deep_get hps
  have hdq := deep_get hqs
  have hhp := held_len hpm
  have hhq := held_len hqm
  refine ⟨_, rfl, _, rfl, _, rfl, _, rfl, slA_go hp16 fun p4 H7 e7 hp4 => ?_⟩
  rw [cut_hi] at hp4
  refine ⟨v', p4, tell t, .t kk ps, w1.take n, rfl, hv6.same e7, hlk.ok, by omega, by omega, hp4, htT, fun f1 L1 H8 e8 hf10 hf1 hL1 => ?_⟩
  have e68 := e7.trans e8
  refine ⟨_, rfl, _, rfl, _, rfl, _, _, rfl, rfl, _, rfl, ?_⟩
  dsimp only [tNoPart]
  refine slA_go (e68 _ _ hp26) fun p5 H9 e9 hp5 => ?_
  rw [show ((n : Int) + 1) = ((n + 1 : Nat) : Int) from rfl, cut_lo] at hp5
  have e69 := e68.trans e9
  refine ⟨vq, p5, q, .b y, w2.drop (n + 1), rfl, hatq.same e69, oks_all.mp sok'.2.2 q hqm, by omega, by omega, hp5, htq, fun f2 L2 HA eA hf20 hf2 hL2 => ?_⟩
  have e6A := e69.trans eA
  have sl1 := short_len (w1.take n) (tell t) (.t kk ps) htT
  have sl2 := short_len (w2.drop (n + 1)) q (.b y) htq
  have hl1 := hL1.length_eq
  have hl2 := hL2.length_eq
  refine ⟨f1, f2, _, _, rfl, rfl, (e9.trans eA) _ _ hf1, hf2, ?_, fun f hf => ?_⟩
  · rw [List.length_map, List.length_map]
    exact Nat.le_trans (m := 1000) (by omega) (by decide)
  have eB := same_upd (.lst (L1.map V.int ++ L2.map V.int)) hf
  have hfB : upd HA f (.lst (L1.map V.int ++ L2.map V.int)) f = some (.lst ((L1 ++ L2).map V.int)) := by rw [upd_same, List.map_append]
  have e6B := e6A.trans eB
  generalize upd HA f (.lst (L1.map V.int ++ L2.map V.int)) = HB at eB hfB e6B ⊢
  have g2B := e6B _ _ g2
  have g3B := g3.same e6B
  have hatpB := hatp.same e6B
  have hp1B := e6B _ _ hp16
  have hp2B := e6B _ _ hp26
  have hfA : HA f = none := hf
  have hfH : H f = none := (e14.trans (e56.trans e6A)).free hf
  dsimp only [gName]
  refine ⟨_, rfl, _, _, rfl, rfl, ?_⟩
  dsimp only [List.set]
  refine seq_cut (fun σ H' => ∃ (m : Int) (C : List Int), σ = [some v', some (.int x), some (.int y), some (.ref p1), some (.ref p2), some (.int (n : Int)), some (.int kk), some (.ref q1), some vp, some vq, some (.ref f), some (.int m), none] ∧ KeepF f HB H' ∧ H' f = some (.lst ((L1 ++ L2 ++ C).map V.int)) ∧ m = (if crossC kk ps p x = true then kk - 2 else kk - 1) ∧ C.Perm (if crossC kk ps p x = true then p.held.filter (fun z => decide (z ≠ x)) else [])) (fun N hN => ?_) ?_
  · refine if_cut (fun c H' => c = crossC kk ps p x ∧ Same HB H') (fun Q' hQ => ?_) ?_ ?_
    · refine ⟨_, rfl, _, rfl, q1, _, rfl, .inr (SqT.of g2B), _, _, rfl, rfl, _, _, rfl, rfl, _, rfl, ?_⟩
      by_cases g : (ws.length : Int) - 2 < kk - 1
      · rw [decide_eq_true g]
        refine iteT (hQ _ _ ⟨?_, Same.refl _⟩)
        unfold crossC
        rw [decide_eq_true (show kk - 1 > (ps.length : Int) - 2 by omega)]
        rfl
      · rw [decide_eq_false g]
        refine iteF ⟨_, rfl, _, rfl, (by show 1 ≤ sizeLine; decide), fun z1 hz1 => ?_⟩
        have f1 := same_upd (.tup [V.int x]) hz1
        refine ⟨vp, z1, p, [x], rfl, hatpB.same f1, .inr (SqT.of upd_same), by omega, fun H5 e5 => ⟨_, rfl, hQ _ _ ⟨?_, f1.trans e5⟩⟩⟩
        unfold crossC
        rw [decide_eq_false (show ¬ kk - 1 > (ps.length : Int) - 2 by omega)]
        rfl
    · rintro H' ⟨hc, eC⟩
      refine ⟨_, rfl, .inl ⟨rfl, _, SqL.of (eC _ _ hfB)⟩, _, rfl, vp, p, rfl, hatpB.same eC, by omega, by omega, fun b1 Lb H5 e5 hLb _ hb1 => ?_⟩
      have hLbl := hLb.length_eq
      refine ⟨_, rfl, b1, x, Lb, rfl, SqT.of hb1, by omega, fun b2 H6 hb20 e6' hb2 => ?_⟩
      have hlo : (lessOf x Lb).length ≤ Lb.length := List.length_filter_le _ _
      refine ⟨f, b2, _, _, rfl, rfl, (eC.trans (e5.trans e6')) _ _ hfB, SqT.of hb2, ?_, ?_⟩
      · rw [List.length_map, List.length_map, List.length_append]
        exact Nat.le_trans (m := 1000) (by omega) (by decide)
      refine ⟨_, rfl, _, _, rfl, rfl, hN _ _ ⟨kk - 2, lessOf x Lb, ?_, ?_, ?_, by rw [← hc, if_pos rfl], ?_⟩⟩
      · rw [show kk - 2 = kk - 1 - 1 by omega]
        rfl
      · exact (KeepF.of (eC.trans (e5.trans e6'))).put
      · rw [upd_same]
        simp only [List.map_append]
      · rw [← hc, if_pos rfl]
        unfold lessOf
        have : (fun z : Int => !decide (z = x)) = fun z => decide (z ≠ x) := by
          funext z
          by_cases h : z = x <;> simp [h]
        rw [this]
        exact hLb.filter _
    · rintro H' ⟨hc, eC⟩
      exact hN _ _ ⟨kk - 1, [], rfl, .of eC, by rw [List.append_nil]; exact eC _ _ hfB, by rw [← hc]; rfl, by rw [← hc]; exact List.Perm.refl _⟩
  rintro σ HC ⟨m, C, rfl, kC, hfC, hm, hC⟩
  have ktC := kC.kt hfB
  have hp1C := ktC _ _ hp1B
  have hp2C := ktC _ _ hp2B
  have g2C := ktC _ _ g2B
  have g3C := g3B.mono ktC
  have hm0 : 0 ≤ m := by
    cases hcc : crossC kk ps p x with
    | true =>
      rw [hcc, if_pos rfl] at hm
      have := cross_two sok snd' srd hpm hxp hpx h2p hcc
      omega
    | false =>
      rw [hcc, if_neg Bool.false_ne_true] at hm
      omega
  have hCl : C.length ≤ 60 := by
    have h1 := hC.length_eq
    have h2 : (if crossC kk ps p x = true then p.held.filter (fun z => decide (z ≠ x)) else []).length ≤ p.held.length := by
      split
      · exact List.length_filter_le _ _
      · exact Nat.zero_le _
    omega
  refine ⟨_, rfl, _, rfl, _, rfl, p1, _, _, _, rfl, rfl, SqT.of hp1C, at1, _, rfl, _, rfl, p2, _, _, _, rfl, rfl, SqT.of hp2C, at2, (by show 2 ≤ sizeLine; decide), fun z1 hz1 => ?_⟩
  have f1 := same_upd (.tup [V.int i, .int j]) hz1
  refine ⟨q1, z1, ws, ps, [i, j], rfl, f1 _ _ g2C, g3C.same f1, g4, upd_same, fun D us H3 e3 hD0 hD hus => ?_⟩
  have e03 := f1.trans e3
  refine ⟨_, rfl, _, rfl, D, us, rfl, SqL.of hD, fun D2 hD2 => ?_⟩
  rw [cut_take us hm0]
  have f4 := same_upd (.lst (us.take m.toNat)) hD2
  have hD4 : upd H3 D2 (.lst (us.take m.toNat)) D2 = some (.lst (us.take m.toNat)) := upd_same
  have hus4 := (hus.take m.toNat).same f4
  generalize hH4 : upd H3 D2 (.lst (us.take m.toNat)) = H4 at f4 hD4 hus4 ⊢
  have e04 := e03.trans f4
  have hf4 := e04 _ _ hfC
  have nDf : D2 ≠ f := fun z => by
    rw [z, e03 _ _ hfC] at hD2
    cases hD2
  have hbl := bes_helds (I := [i, j]) ps 0
  have htl := take_len (R := bes [i, j] 0 ps) m.toNat
  have hlm := hus4.length
  generalize hB : (bes [i, j] 0 ps).take m.toNat = B at hus4 htl hlm
  have hBm : ∀ pt ∈ B, pt ∈ ps := fun pt h => bes_mem (List.mem_of_mem_take (hB ▸ h))
  refine ⟨D2, rfl, ⟨_, SqL.of hD4⟩, ?_⟩
  refine for_list (K := K) (a := D2) (xs := us.take m.toNat) (fun a σ H' => ∃ (y12 : Option V) (L' : List Int), σ = [some v', some (.int x), some (.int y), some (.ref p1), some (.ref p2), some (.int (n : Int)), some (.int kk), some (.ref q1), some vp, some vq, some (.ref f), some (.int m), y12] ∧ KeepF f H4 H' ∧ H' f = some (.lst (L'.map V.int)) ∧ L'.Perm (L1 ++ L2 ++ C ++ Tr.helds (B.take a))) ?_ ?_ ?_ ?_
  · exact ⟨_, _, rfl, fun _ _ _ h => h, hf4, by rw [List.take_zero, Tr.helds, List.append_nil]⟩
  · rintro a σ H5 _ ⟨y12, L', rfl, k5, _⟩
    exact SqL.of (k5 _ _ nDf hD4)
  · rintro a xx σ H5 hx5 ⟨y12, L', rfl, k5, hf5, hp5⟩
    obtain ⟨pt, hpt, hat⟩ := hus4.get hx5
    have hptm := hBm pt (List.mem_of_getElem? hpt)
    have hdp5 := (deeps_le (n := Tr.deeps ps)).mp (Nat.le_refl _) pt hptm
    have hhl := held_len hptm
    have hLl5 := hp5.length_eq
    have htl2 := take_len (R := B) a
    rw [List.length_append, List.length_append, List.length_append] at hLl5
    refine ⟨_, rfl, .inl ⟨rfl, _, SqL.of hf5⟩, _, rfl, xx, pt, rfl, hat.mono (k5.kt hf4), by omega, by omega, fun b2 Lb H6 e6' hLb _ hbb => ?_⟩
    have hL2' := hLb.length_eq
    refine ⟨f, b2, _, _, rfl, rfl, e6' _ _ hf5, SqT.of hbb, ?_, ?_⟩
    · rw [List.length_map, List.length_map]
      exact Nat.le_trans (m := 1000) (by omega) (by decide)
    refine ⟨_, L' ++ Lb, rfl, (k5.trans (.of e6')).put, by rw [upd_same, List.map_append], ?_⟩
    rw [take_snoc hpt, helds_snoc, ← List.append_assoc]
    exact hp5.append hLb
  · rintro σ H5 ⟨y12, L', rfl, k5, hf5, hp5⟩
    rw [hlm, List.take_length] at hp5
    have hLl5 := hp5.length_eq
    rw [List.length_append, List.length_append, List.length_append] at hLl5
    have hRR := (helds_perm (bes_two i0 hps j0 hqs hij)).length_eq
    rw [Tr.helds, Tr.helds, List.length_append, List.length_append] at hRR
    rw [show (Tr.t kk ps).held = Tr.helds ps from by rw [Tr.held]] at sl1
    have hCl2 : C.length ≤ p.held.length := by
      have h1 := hC.length_eq
      have h2 : (if crossC kk ps p x = true then p.held.filter (fun z => decide (z ≠ x)) else []).length ≤ p.held.length := by
        split
        · exact List.length_filter_le _ _
        · exact Nat.zero_le _
      omega
    refine ⟨_, rfl, f, L', rfl, SqL.of hf5, by omega, fun Lf b2 hpf hsf hbn => ⟨b2, _, rfl, .inl ⟨SqL.of upd_same, fun b3 hb3 => ?_⟩⟩⟩
    have gg := (same_upd (.lst (Lf.map V.int)) hbn).trans (same_upd (.tup (Lf.map V.int)) hb3)
    have kk5 : Same HA H5 := KeepF.same hfA eB (kC.trans ((KeepF.of e04).trans k5))
    refine k2 x y rfl rfl hx hy hno b3 Lf w1 w2 _ ((e14.trans (e56.trans (e6A.trans kk5))).trans gg) upd_same hsf ht1 ht2 ?_
    rw [hworse]
    refine (hpf.trans hp5).trans ?_
    unfold crossL
    rw [← hm, hB, List.append_assoc, List.append_assoc]
    exact hL1.append (hL2.append (hC.append_right _))

/-! ### what is kept by pairs; what tells of two buttons -/
/-! ### the table of who stands no worse, by pairs -/
theorem put_new {κ : Type} [DecidableEq κ] {kvs : List (κ × V)} {k : κ} {v : V} (h : k ∉ kvs.map (·.1)) : putK kvs k v = kvs ++ [(k, v)] := by
  unfold putK
  rw [if_neg]
  intro z
  rw [List.any_eq_true] at z
  obtain ⟨p, hp, e⟩ := z
  exact h (List.mem_map.mpr ⟨p, hp, of_decide_eq_true e⟩)
def keyP (x y : Int) : List L2.Key := [.inl x, .inl y]
theorem keyP_V (x y : Int) : (keyP x y).map kV = [V.int x, V.int y] := rfl
theorem keyP_inj {x y a b : Int} (h : keyP x y = keyP a b) : x = a ∧ y = b := by
  unfold keyP at h
  injection h with h1 h2
  injection h2 with h3 _
  injection h1 with h1
  injection h3 with h3
  exact ⟨h1, h3⟩
theorem not_take {R : List Int} (n : R.Nodup) {i : Nat} {x : Int} (h : R[i]? = some x) : x ∉ R.take i := fun z => by
  have h2 := take_snoc h
  have n2 : (R.take (i + 1)).Nodup := n.sublist (List.take_sublist _ _)
  rw [h2] at n2
  exact (List.nodup_append.mp n2).2.2 _ z _ List.mem_cons_self rfl
noncomputable def nwb (t : Tr) (p : Int × Int) : Bool := @decide (p.1 = p.2 ∨ ¬ Worse t p.1 p.2) (Classical.propDecidable _)
theorem nwb_iff {t : Tr} {p : Int × Int} : nwb t p = true ↔ p.1 = p.2 ∨ ¬ Worse t p.1 p.2 := by
  unfold nwb
  exact @decide_eq_true_iff _ (Classical.propDecidable _)
theorem nwb_of {t : Tr} {p : Int × Int} {b : Bool} (h : b = true ↔ p.1 = p.2 ∨ ¬ Worse t p.1 p.2) : b = nwb t p := by
  rw [Bool.eq_iff_iff, h, nwb_iff]
noncomputable def nwV (t : Tr) (p : Int × Int) : V := .bl (nwb t p)
/-- reduced trees that go as t tell the same of two buttons -/
theorem nwb_red {s t : Tr} (o : s.ok) (n : s.held.Nodup) (r : redd s) (hh : ∀ z, z ∈ s.held ↔ z ∈ t.held) (h : ∀ L, s.go L = t.go L) {x y : Int} (hx : x ∈ t.held) (hy : y ∈ t.held) : (x = y ∨ Nw x y s) ↔ nwb t (x, y) = true := by
  rw [nwb_iff]
  by_cases ne : x = y
  · exact ⟨fun _ => .inl ne, fun _ => .inl ne⟩
  have hg := gp_of_go hh h
  have key : Nw x y s ↔ ¬ Worse t x y := by
    rw [← Worse.of hg]
    constructor
    · exact fun q => q.not ne o n
    · exact fun q => Classical.byContradiction fun c => q (Nw.no _ (Nat.lt_succ_self _) ne r o n ((hh x).mpr hx) ((hh y).mpr hy) c)
  rw [key]
theorem nwb_tell {t : Tr} (o : t.ok) (n : t.held.Nodup) {x y : Int} (hx : x ∈ t.held) (hy : y ∈ t.held) : (x = y ∨ Nw x y (tell t)) ↔ nwb t (x, y) = true := by
  have L := tell_like t o
  exact nwb_red L.ok (L.held.nodup_iff.mpr n) (Fine.told o n).redd (fun z => L.held.mem_iff) (fun S => go_tell S t o) hx hy
/-! ### what worse_lot tells, or whom it names -/
structure ShowL (t : Tr) (x y : Int) (L : List Int) : Prop where
  asc : L.Pairwise (· ≤ ·)
  ex : ∃ w w' : List Int, toward (tell t) w = some (.b x) ∧ toward (tell t) w' = some (.b y) ∧ L.Perm (worseL w w' (tell t) x)
theorem ShowL.one {t : Tr} {x y : Int} {L M : List Int} (o : t.ok) (n : t.held.Nodup) (a : ShowL t x y L) (b : ShowL t x y M) : L = M := by
  obtain ⟨w, w', a1, a2, a3⟩ := a.ex
  obtain ⟨v, v', b1, b2, b3⟩ := b.ex
  have hn : (tell t).held.Nodup := (tell_like t o).held.nodup_iff.mpr n
  have e1 := way_one hn a1 b1
  have e2 := way_one hn a2 b2
  subst e1
  subst e2
  exact asc_one a.asc b.asc (a3.trans b3.symm)
theorem ShowL.is {t : Tr} {x y : Int} {L : List Int} (o : t.ok) (n : t.held.Nodup) (h : ShowL t x y L) (no : ¬ (x = y ∨ Nw x y (tell t))) : (∀ z ∈ L, z ∈ t.held ∧ z ≠ x ∧ z ≠ y) ∧ L.Pairwise (· < ·) ∧ t.go (L ++ [y]) = true ∧ t.go (L ++ [x]) = false := by
  obtain ⟨w, w', a1, a2, a3⟩ := h.ex
  have lk := tell_like t o
  have hn : (tell t).held.Nodup := lk.held.nodup_iff.mpr n
  obtain ⟨p, nx, ny, g1, g2⟩ := worse_is (fun e => no (.inl e)) lk.ok hn (Fine.told o n).redd a1 a2 fun e => no (.inr e)
  have hS : ∀ u, gp (wi (inS (worseL w w' (tell t) x)) u) (tell t) = t.go (L ++ [u]) := fun u => by
    rw [← go_tell (L ++ [u]) t o, go_gp]
    refine gp_congr _ fun z _ => ?_
    unfold wi inS
    rw [Bool.eq_iff_iff, Bool.or_eq_true, decide_eq_true_iff, decide_eq_true_iff, decide_eq_true_iff, List.mem_append, List.mem_singleton, a3.mem_iff]
    exact ⟨fun q => q.elim .inr .inl, fun q => q.elim .inr .inl⟩
  refine ⟨fun z hz => ?_, ?_, by rw [← hS]; exact g1, by rw [← hS]; exact g2⟩
  · have hz' := a3.mem_iff.mp hz
    exact ⟨lk.held.mem_iff.mp (p.sub z hz'), fun e => nx (e ▸ hz'), fun e => ny (e ▸ hz')⟩
  · have hL := a3.nodup_iff.mpr p.nodup
    exact (h.asc.and hL).imp fun h => by
      have := h.1
      have := h.2
      omega
theorem nodup_le : ∀ {L M : List Int}, L.Nodup → (∀ z ∈ L, z ∈ M) → L.length ≤ M.length
  | [], _, _, _ => Nat.zero_le _
  | z :: L, M, n, h => by
    rw [List.nodup_cons] at n
    have hp := List.perm_cons_erase (h z List.mem_cons_self)
    have ih := nodup_le (L := L) (M := M.erase z) n.2 fun u hu => (List.mem_erase_of_ne fun e : u = z => n.1 (by rw [← e]; exact hu)).mpr (h u (List.mem_cons_of_mem _ hu))
    rw [hp.length_eq, List.length_cons, List.length_cons]
    omega

/-! ### counts put together *--/
def CntAt (H : Hp) (D : Addr) (A : Cn) : Prop := H D = some (.dT (entC A))
def Kp3 (a b c : Addr) (H H' : Hp) : Prop := ∀ x o, x ≠ a → x ≠ b → x ≠ c → H x = some o → H' x = some o
theorem Kp3.put {a b c d : Addr} {H H' : Hp} {o : HO} (k : Kp3 a b c H H') (h : d = a ∨ d = b ∨ d = c) : Kp3 a b c H (upd H' d o) := fun x u n1 n2 n3 hx => by
  rw [upd_ne (by rcases h with h | h | h <;> rw [h] <;> assumption)]
  exact k x u n1 n2 n3 hx
theorem Kp3.new {a b c d : Addr} {H H' : Hp} {o : HO} (k : Kp3 a b c H H') (h : H' d = none) : Kp3 a b c H (upd H' d o) := fun x u n1 n2 n3 hx => by
  have := k x u n1 n2 n3 hx
  rw [upd_ne (fun z => by rw [z, h] at this; cases this)]
  exact this
theorem wsum_take {A : Cn} {i : Nat} {e : Pr × Nat} (h : A[i]? = some e) (φ : Pr → Nat) : wsum (A.take (i + 1)) φ = wsum (A.take i) φ + e.2 * φ e.1 := by
  rw [take_snoc h, wsum_app, wsum, wsum]
  omega
theorem ent_at {A : Cn} {i : Nat} {k : List L2.Key} {v : V} (h : (entC A)[i]? = some (k, v)) : ∃ e, A[i]? = some e ∧ k = pK e.1 ∧ v = .int (e.2 : Int) := by
  unfold entC at h
  obtain ⟨e, he, e2⟩ := map_get h
  cases e2
  exact ⟨e, he, rfl, rfl⟩
theorem pK_V (k : Pr) : (pK k).map kV = [V.int (k.1 : Int), V.int (k.2 : Int)] := rfl
theorem add_len (k : Pr) (v : Nat) : ∀ A : Cn, (addK A k v).length ≤ A.length + 1
  | [] => Nat.le_refl _
  | e :: r => by
    rw [addK]
    have := add_len k v r
    split <;> simp <;> omega
def spPut : Sp := fun vs H Q _ => ∃ (D1 D2 : Addr) (A B : Cn), vs = [.ref D1, .ref D2] ∧ CntAt H D1 A ∧ CntAt H D2 B ∧ D1 ≠ D2 ∧ A.length ≤ 1000 ∧ B.length ≤ 1000 ∧ (∀ e ∈ A, e.2 < 2 ^ 60) ∧ (∀ e ∈ B, e.2 < 2 ^ 60) ∧
  ∀ (D : Addr) (F : Cn) (H' : Hp), Same H H' → H D = none → CntAt H' D F → (keys F).Nodup → (∀ φ, wsum F φ = wsum A fun k => wsum B fun j => φ (addP k j)) → (∀ k ∈ keys F, ∃ i ∈ keys A, ∃ j ∈ keys B, k = addP i j) → Q (.ref D) H'
theorem ok__put_together (T : Cd K mg) : FnOk P w K mg base CX0 1 T.a__put_together T.d__put_together p__put_together spPut := by
  have nd : (n__put_together : List Str).Nodup := sc__put_together.nd
  refine T.F__put_together.ok sc__put_together (fun vs H Q E h => ?_) (fun cdv Ar outer s H vs Q E hr h => ?_)
  · obtain ⟨D1, D2, A, B, rfl, _⟩ := h
    rfl
  obtain ⟨D1, D2, A, B, rfl, hA, hB, n12, hAl, hBl, hAv, hBv, k⟩ := h
  have hu64 := hr.units
  have hu := hu_of hr
  refine ⟨_, (pss_cons (ps_set (i := 2) nd rfl (Or.inl rfl) pe_dnewT)
      (pss_cons (ps_lock (ps_for PassesOwn.never rfl (pi_itemsT (pv 0)) (pg_tup rfl (pgs_cons (pg_tup rfl (pgs_cons (pg_name (i := 3) nd rfl (Or.inl rfl)) (pgs_cons (pg_name (i := 4) nd rfl (Or.inl rfl)) pgs_nil))) (pgs_cons (pg_name (i := 5) nd rfl (Or.inl rfl)) pgs_nil)))
        (pss_one (ps_lock (ps_for PassesOwn.never rfl (pi_itemsT (pv 1)) (pg_tup rfl (pgs_cons (pg_tup rfl (pgs_cons (pg_name (i := 6) nd rfl (Or.inl rfl)) (pgs_cons (pg_name (i := 7) nd rfl (Or.inl rfl)) pgs_nil))) (pgs_cons (pg_name (i := 8) nd rfl (Or.inl rfl)) pgs_nil)))
        (pss_cons (ps_set (i := 9) nd rfl (Or.inl rfl) (pe_tup (pa_cons (pe_op op_add (pv 3) (pv 6)) (pa_cons (pe_op op_add (pv 4) (pv 7)) pa_nil))))
      (pss_one (ps_dput hu (pv 2) (pv 9) (pe_op op_add (pe_dget2 hu (pv 2) (pv 9) pe_int ⟨rfl, rfl, rfl, rfl⟩) (pe_op op_mul (pv 5) (pv 8))) rfl))))))))
      (pss_one (ps_ret (pv 2))))), ?_⟩
  refine fun D hD => ?_
  have hD1 : D ≠ D1 := fun z => by rw [← z, CntAt, hD] at hA; cases hA
  have hD2 : D ≠ D2 := fun z => by rw [← z, CntAt, hD] at hB; cases hB
  dsimp only [gName]
  refine ⟨D1, .dT (entC A), by rw [upd_ne hD1.symm]; exact hA, trivial, fun od1 => ?_⟩
  refine ⟨_, rfl, D1, od1, entC A, rfl, upd_same, ?_⟩
  have k0 : Kp3 D D1 D2 H (upd (upd H D (.dT [])) D1 (.frz od1 (.dT (entC A)))) := Kp3.put (Kp3.put (fun _ _ _ _ _ h => h) (.inl rfl)) (.inr (.inl rfl))
  refine for_it (J := Itit D1 od1 (entC A)) (walk_itemsT (kvs := entC A)) (fun i σ H' => ∃ (x3 x4 x5 x6 x7 x8 x9 : Option V) (F : Cn), σ = [some (.ref D1), some (.ref D2), some (.ref D), x3, x4, x5, x6, x7, x8, x9] ∧ Kp3 D D1 D2 H H' ∧ H' D1 = some (.frz od1 (.dT (entC A))) ∧ CntAt H' D2 B ∧ CntAt H' D F ∧ (keys F).Nodup ∧ F.length ≤ i * 1000 ∧ (∀ φ, wsum F φ = wsum (A.take i) fun k => wsum B fun j => φ (addP k j)) ∧ (∀ k ∈ keys F, ∃ i ∈ keys A, ∃ j ∈ keys B, k = addP i j)) ?_ ?_ ?_ ?_
  · refine ⟨none, none, none, none, none, none, none, [], rfl, k0, upd_same, ?_, ?_, List.nodup_nil, Nat.zero_le _, fun φ => rfl, fun k hk => nomatch hk⟩
    · rw [CntAt, upd_ne n12.symm, upd_ne hD2.symm]
      exact hB
    · rw [CntAt, upd_ne hD1, upd_same]
      rfl
  · rintro i σ H' _ ⟨x3, x4, x5, x6, x7, x8, x9, F, rfl, _, h1, _⟩
    exact h1
  · rintro i x σ H3 H4 hi ⟨x3, x4, x5, x6, x7, x8, x9, F, rfl, k3, h1, h2, h3, nF, lF, wF, kF⟩ ⟨Tu, kk, v, q, hkv, hq, rfl, hTn, rfl⟩
    obtain ⟨e, he, rfl, rfl⟩ := ent_at hkv
    rw [pK_V] at hq
    have hi' := (List.getElem?_eq_some_iff.mp he).1
    have hem := List.mem_of_getElem? he
    have nT : ∀ {a : Addr} {o : HO}, H3 a = some o → a ≠ Tu := fun h z => by rw [z, hTn] at h; cases h
    have k4 : Kp3 D D1 D2 H (upd H3 Tu (.tup [.ref q, .int (e.2 : Int)])) := k3.new hTn
    have h14 : upd H3 Tu (.tup [.ref q, .int (e.2 : Int)]) D1 = some (.frz od1 (.dT (entC A))) := by rw [upd_ne (nT h1)]; exact h1
    have h24 : CntAt (upd H3 Tu (.tup [.ref q, .int (e.2 : Int)])) D2 B := by rw [CntAt, upd_ne (nT h2)]; exact h2
    have h34 : CntAt (upd H3 Tu (.tup [.ref q, .int (e.2 : Int)])) D F := by rw [CntAt, upd_ne (nT h3)]; exact h3
    have hq4 : upd H3 Tu (.tup [.ref q, .int (e.2 : Int)]) q = some (.tup [V.int (e.1.1 : Int), V.int (e.1.2 : Int)]) := by rw [upd_ne (nT hq)]; exact hq
    have hT4 : upd H3 Tu (.tup [.ref q, .int (e.2 : Int)]) Tu = some (.tup [.ref q, .int (e.2 : Int)]) := upd_same
    generalize upd H3 Tu (.tup [.ref q, .int (e.2 : Int)]) = H4 at k4 h14 h24 h34 hq4 hT4 ⊢
    refine ⟨Tu, _, rfl, SqT.of hT4, rfl, _, _, rfl, q, _, rfl, SqT.of hq4, rfl, _, _, rfl, _, _, rfl, rfl, _, _, rfl, rfl, ?_⟩
    refine ⟨D2, _, h24, trivial, fun od2 => ?_⟩
    refine ⟨_, rfl, D2, od2, entC B, rfl, upd_same, ?_⟩
    have lB : ∀ j, j ≤ B.length → i * 1000 + j < sizeLine := fun j hj => Nat.lt_of_le_of_lt (m := 1000 * 1000 + 1000) (by omega) (by decide)
    refine for_it (J := Itit D2 od2 (entC B)) (walk_itemsT (kvs := entC B)) (fun j σ H' => ∃ (x6 x7 x8 x9 : Option V) (G : Cn), σ = [some (.ref D1), some (.ref D2), some (.ref D), some (.int (e.1.1 : Int)), some (.int (e.1.2 : Int)), some (.int (e.2 : Int)), x6, x7, x8, x9] ∧ Kp3 D D1 D2 H H' ∧ H' D1 = some (.frz od1 (.dT (entC A))) ∧ H' D2 = some (.frz od2 (.dT (entC B))) ∧ CntAt H' D G ∧ (keys G).Nodup ∧ G.length ≤ i * 1000 + j ∧ (∀ φ, wsum G φ = (wsum (A.take i) fun k => wsum B fun j => φ (addP k j)) + e.2 * wsum (B.take j) fun j => φ (addP e.1 j)) ∧ (∀ k ∈ keys G, ∃ i ∈ keys A, ∃ j ∈ keys B, k = addP i j)) ?_ ?_ ?_ ?_
    · refine ⟨_, _, _, _, F, rfl, k4.put (.inr (.inr rfl)), ?_, upd_same, ?_, nF, by omega, fun φ => ?_, kF⟩
      · rw [upd_ne n12]
        exact h14
      · rw [CntAt, upd_ne hD2]
        exact h34
      · rw [wF, List.take_zero, wsum]
        simp
    · rintro j σ H' _ ⟨x6, x7, x8, x9, G, rfl, _, _, h2, _⟩
      exact h2
    · rintro j x σ H5 H6 hj ⟨x6, x7, x8, x9, G, rfl, k5, g1, g2, g3, nG, lG, wG, kG⟩ ⟨Tv, kk2, v2, q2, hkv2, hq2, rfl, hTn2, rfl⟩
      obtain ⟨f, hf, rfl, rfl⟩ := ent_at hkv2
      rw [pK_V] at hq2
      have hj' := (List.getElem?_eq_some_iff.mp hf).1
      have hfm := List.mem_of_getElem? hf
      have nT2 : ∀ {a : Addr} {o : HO}, H5 a = some o → a ≠ Tv := fun h z => by rw [z, hTn2] at h; cases h
      have k6 : Kp3 D D1 D2 H (upd H5 Tv (.tup [.ref q2, .int (f.2 : Int)])) := k5.new hTn2
      have g16 : upd H5 Tv (.tup [.ref q2, .int (f.2 : Int)]) D1 = some (.frz od1 (.dT (entC A))) := by rw [upd_ne (nT2 g1)]; exact g1
      have g26 : upd H5 Tv (.tup [.ref q2, .int (f.2 : Int)]) D2 = some (.frz od2 (.dT (entC B))) := by rw [upd_ne (nT2 g2)]; exact g2
      have g36 : CntAt (upd H5 Tv (.tup [.ref q2, .int (f.2 : Int)])) D G := by rw [CntAt, upd_ne (nT2 g3)]; exact g3
      have hq6 : upd H5 Tv (.tup [.ref q2, .int (f.2 : Int)]) q2 = some (.tup [V.int (f.1.1 : Int), V.int (f.1.2 : Int)]) := by rw [upd_ne (nT2 hq2)]; exact hq2
      have hT6 : upd H5 Tv (.tup [.ref q2, .int (f.2 : Int)]) Tv = some (.tup [.ref q2, .int (f.2 : Int)]) := upd_same
      generalize upd H5 Tv (.tup [.ref q2, .int (f.2 : Int)]) = H6 at k6 g16 g26 g36 hq6 hT6 ⊢
      refine ⟨Tv, _, rfl, SqT.of hT6, rfl, _, _, rfl, q2, _, rfl, SqT.of hq6, rfl, _, _, rfl, _, _, rfl, rfl, _, _, rfl, rfl, ?_⟩
      refine ⟨_, rfl, _, rfl, _, _, rfl, rfl, _, rfl, _, rfl, _, _, rfl, rfl, (by show 2 ≤ sizeLine; decide), fun z hz => ?_⟩
      have nz : ∀ {a : Addr} {o : HO}, H6 a = some o → a ≠ z := fun h y => by rw [y, hz] at h; cases h
      have hval : (valV (entC G) (pK (addP e.1 f.1))).getD (.int 0) = .int (((getK G (addP e.1 f.1)).getD 0 : Nat) : Int) := by
        rw [entC_get]
        cases getK G (addP e.1 f.1) <;> rfl
      have g37 : CntAt (upd H6 z (.tup [V.int ((e.1.1 : Int) + (f.1.1 : Int)), .int ((e.1.2 : Int) + (f.1.2 : Int))])) D G := by rw [CntAt, upd_ne (nz g36)]; exact g36
      have hz7 : upd H6 z (.tup [V.int ((e.1.1 : Int) + (f.1.1 : Int)), .int ((e.1.2 : Int) + (f.1.2 : Int))]) z = some (.tup ((pK (addP e.1 f.1)).map kV)) := upd_same
      have k7 := k6.new (o := .tup [V.int ((e.1.1 : Int) + (f.1.1 : Int)), .int ((e.1.2 : Int) + (f.1.2 : Int))]) hz
      have g17 : upd H6 z (.tup [V.int ((e.1.1 : Int) + (f.1.1 : Int)), .int ((e.1.2 : Int) + (f.1.2 : Int))]) D1 = some (.frz od1 (.dT (entC A))) := by rw [upd_ne (nz g16)]; exact g16
      have g27 : upd H6 z (.tup [V.int ((e.1.1 : Int) + (f.1.1 : Int)), .int ((e.1.2 : Int) + (f.1.2 : Int))]) D2 = some (.frz od2 (.dT (entC B))) := by rw [upd_ne (nz g26)]; exact g26
      generalize upd H6 z (.tup [V.int ((e.1.1 : Int) + (f.1.1 : Int)), .int ((e.1.2 : Int) + (f.1.2 : Int))]) = H7 at g37 hz7 k7 g17 g27 ⊢
      have he60 := hAv e hem
      refine ⟨_, rfl, D, rfl, .inr ⟨_, .inl g37⟩, _, rfl, _, DGet.t (k := pK (addP e.1 f.1)) g37 hz7, ?_⟩
      rw [hval]
      refine ⟨_, rfl, _, rfl, _, _, rfl, rfl, .inl ⟨by omega, by omega⟩, _, _, rfl, rfl, _, rfl, _, rfl, D, _, rfl, DPut.t (k := pK (addP e.1 f.1)) g37 hz7 ?_, ?_⟩
      · show (entC G).length < sizeLine
        rw [show (entC G).length = G.length from List.length_map _]
        have := lB j (by omega)
        omega
      have hput := entC_put (A := G) (k := addP e.1 f.1) (v := e.2 * f.2) nG
      refine ⟨_, _, _, _, addK G (addP e.1 f.1) (e.2 * f.2), rfl, k7.put (.inl rfl), by rw [upd_ne hD1.symm]; exact g17, by rw [upd_ne hD2.symm]; exact g27, ?_, add_nodup nG, ?_, fun φ => ?_, fun k hk => ?_⟩
      · rw [CntAt, upd_same, ← hput]
        rfl
      · have := add_len (addP e.1 f.1) (e.2 * f.2) G
        omega
      · rw [wsum_add, wG, wsum_take hf, Nat.mul_add, Nat.mul_assoc]
        omega
      · rcases add_mem hk with hk | hk
        · exact kG k hk
        · exact ⟨e.1, List.mem_map.mpr ⟨e, hem, rfl⟩, f.1, List.mem_map.mpr ⟨f, hfm, rfl⟩, hk⟩
    · rintro σ H5 ⟨x6, x7, x8, x9, G, rfl, k5, g1, g2, g3, nG, lG, wG, kG⟩
      have hll : (entC B).length = B.length := List.length_map _
      rw [hll] at lG wG
      dsimp only
      refine ⟨g2, _, _, _, _, _, _, _, G, rfl, k5.put (.inr (.inr rfl)), by rw [upd_ne n12]; exact g1, upd_same, by rw [CntAt, upd_ne hD2]; exact g3, nG, by omega, fun φ => ?_, kG⟩
      rw [wG, List.take_length, wsum_take he]
  · rintro σ H3 ⟨x3, x4, x5, x6, x7, x8, x9, F, rfl, k3, h1, h2, h3, nF, lF, wF, kF⟩
    have hll : (entC A).length = A.length := List.length_map _
    rw [hll, List.take_length] at wF
    dsimp only
    refine ⟨h1, _, rfl, k D F _ (fun a o h => ?_) hD (by rw [CntAt, upd_ne hD1]; exact h3) nF wF kF⟩
    by_cases c1 : a = D1
    · rw [c1] at h ⊢
      rw [upd_same, ← h, hA]
    · rw [upd_ne c1]
      by_cases c2 : a = D2
      · rw [c2] at h ⊢
        rw [← h, hB, h2]
      · exact k3 a o (fun z => by rw [z, hD] at h; cases h) c1 c2 h

/-! ### counts of a thing *--/
theorem nodup_leG {α : Type} [DecidableEq α] : ∀ {L M : List α}, L.Nodup → (∀ z ∈ L, z ∈ M) → L.length ≤ M.length
  | [], _, _, _ => Nat.zero_le _
  | z :: L, M, n, h => by
    rw [List.nodup_cons] at n
    have hp := List.perm_cons_erase (h z List.mem_cons_self)
    have ih := nodup_leG (L := L) (M := M.erase z) n.2 fun u hu => (List.mem_erase_of_ne fun e : u = z => n.1 (by rw [← e]; exact hu)).mpr (h u (List.mem_cons_of_mem _ hu))
    rw [hp.length_eq, List.length_cons, List.length_cons]
    omega
def grid (n : Nat) : List Pr := (List.range (n + 1)).flatMap fun a => (List.range (n + 1)).map fun b => (a, b)
theorem grid_len (n : Nat) : (grid n).length = (n + 1) * (n + 1) := by
  unfold grid
  rw [List.length_flatMap]
  simp only [List.length_map, List.length_range]
  rw [List.map_const', List.length_range, List.sum_replicate_nat]
theorem cn_len {A : Cn} {n : Nat} (nd : (keys A).Nodup) (h : ∀ k ∈ keys A, k.1 ≤ n ∧ k.2 ≤ n) : A.length ≤ (n + 1) * (n + 1) := by
  have h1 : (keys A).length ≤ (grid n).length := nodup_leG nd fun k hk => by
    obtain ⟨h1, h2⟩ := h k hk
    unfold grid
    exact List.mem_flatMap.mpr ⟨k.1, List.mem_range.mpr (by omega), List.mem_map.mpr ⟨k.2, List.mem_range.mpr (by omega), rfl⟩⟩
  rw [grid_len] at h1
  unfold keys at h1
  rw [List.length_map] at h1
  exact h1
theorem ind_one (b : Bool) : ind b ≤ 1 := ind_le b
mutual
theorem held_one : ∀ t : Tr, t.ok → 1 ≤ t.held.length
  | .b i, _ => by rw [Tr.held]; exact Nat.le_refl _
  | .t k ps, o => by
    rw [Tr.ok] at o
    have := helds_ge ps o.2.2
    rw [Tr.held]
    omega
theorem helds_ge : ∀ ps : List Tr, Tr.oks ps → ps.length ≤ (Tr.helds ps).length
  | [], _ => Nat.zero_le _
  | p :: r, o => by
    rw [Tr.oks] at o
    have h1 := held_one p o.1
    have h2 := helds_ge r o.2
    rw [Tr.helds, List.length_append, List.length_cons]
    omega
end
theorem disp1 {σ : L2.St} {H : Hp} {Q : VK} (a b c : Nat) (k : ∀ (D : Addr) (H' : Hp), Same H H' → H D = none → CntAt H' D [((a, b), c)] → Q (.ref D) H') : tDispT [(tTup (tCons (tC (V.int (a : Int))) (tCons (tC (V.int (b : Int))) tNil)), tC (V.int (c : Int)))] σ H Q := by
  intro p hp
  refine ⟨(by show 2 ≤ sizeLine; decide), fun q hq => ?_⟩
  have nq : p ≠ q := fun z => by rw [← z, upd_same] at hq; cases hq
  refine ⟨by rw [upd_ne nq, upd_same], [(q, pK (a, b), .int (c : Int))], rfl, fun e he => ?_, by simp, by simp, ?_⟩
  · rw [List.mem_singleton.mp he]
    exact upd_same
  · exact k p _ (same_upd2 _ ((same_upd _ hp).trans (same_upd _ hq)) hp) hp upd_same
theorem disp2 {σ : L2.St} {H : Hp} {Q : VK} (a b c a' b' c' : Nat) (ne : (a, b) ≠ (a', b')) (k : ∀ (D : Addr) (H' : Hp), Same H H' → H D = none → CntAt H' D [((a, b), c), ((a', b'), c')] → Q (.ref D) H') : tDispT [(tTup (tCons (tC (V.int (a : Int))) (tCons (tC (V.int (b : Int))) tNil)), tC (V.int (c : Int))), (tTup (tCons (tC (V.int (a' : Int))) (tCons (tC (V.int (b' : Int))) tNil)), tC (V.int (c' : Int)))] σ H Q := by
  intro p hp
  refine ⟨(by show 2 ≤ sizeLine; decide), fun q hq => ⟨(by show 2 ≤ sizeLine; decide), fun q2 hq2 => ?_⟩⟩
  have nq : p ≠ q := fun z => by rw [← z, upd_same] at hq; cases hq
  have e1 := same_upd (.tup [V.int (a : Int), .int (b : Int)]) hq
  have e2 := same_upd (.tup [V.int (a' : Int), .int (b' : Int)]) hq2
  refine ⟨e2 _ _ (e1 _ _ upd_same), [(q, pK (a, b), .int (c : Int)), (q2, pK (a', b'), .int (c' : Int))], rfl, fun e he => ?_, ?_, by simp, ?_⟩
  · simp only [List.mem_cons, List.not_mem_nil, or_false] at he
    rcases he with rfl | rfl
    · exact e2 _ _ upd_same
    · exact upd_same
  · simp only [List.map_cons, List.map_nil, List.nodup_cons, List.mem_singleton, List.not_mem_nil, not_false_eq_true, List.nodup_nil, and_self, and_true]
    exact fun z => ne (pK_inj z)
  · exact k p _ (same_upd2 _ ((same_upd _ hp).trans (e1.trans e2)) hp) hp upd_same
def spBoth (n : Nat) : Sp := fun vs H Q _ => ∃ (v : V) (t : Tr) (x y : Int), vs = [v, .int x, .int y] ∧ At H v t ∧ t.ok ∧ t.deep < n ∧ t.held.Nodup ∧ t.held.length ≤ 24 ∧ x ≠ y ∧
  ∀ (D : Addr) (A : Cn) (H' : Hp), Same H H' → H D = none → CntAt H' D A → (keys A).Nodup → (∀ k ∈ keys A, k.1 ≤ 1 ∧ k.2 ≤ 1) → Rep A x y t.held (kT x y t) → Q (.ref D) H'
theorem ok__both_counts (T : Cd K mg) : ∀ n, FnOk P w K mg base CX0 (n + 2) T.a__both_counts T.d__both_counts p__both_counts (spBoth n)
  | 0 => by
    have no : ∀ vs H Q E, ¬ spBoth 0 vs H Q E := fun vs H Q E h => by
      obtain ⟨v, t, x, y, _, _, _, h, _⟩ := h
      omega
    exact ⟨fun vs H Q E h => absurd h (no vs H Q E), fun A outer s H args us vs Q E _ _ _ _ h => absurd h (no vs H Q E)⟩
  | n + 1 => by
    have G__both_counts : FnOk P w K mg base CX0 (n + 2) T.a__both_counts T.d__both_counts p__both_counts (spBoth n) := ok__both_counts T n
    have G__put_together : FnOk P w K mg base CX0 1 T.a__put_together T.d__put_together p__put_together spPut := ok__put_together T
    have G_is_trip : FnOk P w K mg base CX0 1 T.a_is_trip T.d_is_trip p_is_trip spIsTrip := ok_is_trip T
    have nd : (n__both_counts : List Str).Nodup := sc__both_counts.nd
    refine T.F__both_counts.ok sc__both_counts (fun vs H Q E h => ?_) (fun cdv Ar outer s H vs Q E hr h => ?_)
    · obtain ⟨v, t, x, y, rfl, _⟩ := h
      rfl
    obtain ⟨v, t, x, y, rfl, hv, hok, hd, hnd, hl, ne, k⟩ := h
    have hu64 : (Ar.deeper (envOfC (Str.ofString "_both_counts") (defScope s__both_counts) s.heap.objs.size T.a__both_counts cdv)).units + 64 < cLine := hr.units
    have hu := hu_of hr
    refine ⟨_, (pss_cons (ps_if (pt_not (pt_val (pe_call G_is_trip (hr.mono (by omega)) rfl T.m_is_trip T.F_is_trip.kp T.b_is_trip .nil pass0 (pa_cons (pv 0) pa_nil)))) (pss_cons (ps_if (pt_cmpR (op_eqD hu64) (pv 0) (pv 1) (nomark _)) (pss_one (ps_ret (pe_dispT hu (pps_cons (pe_tup (pa_cons pe_int (pa_cons pe_int pa_nil))) pe_int pps_nil) (by rfl) (by rfl) (fun z => by cases z) (by decide)))) pss_nil)
      (pss_one (ps_ret (pe_ifExp (pt_cmpR (op_eqD hu64) (pv 0) (pv 2) (nomark _)) (pe_dispT hu (pps_cons (pe_tup (pa_cons pe_int (pa_cons pe_int pa_nil))) pe_int pps_nil) (by rfl) (by rfl) (fun z => by cases z) (by decide)) (pe_dispT hu (pps_cons (pe_tup (pa_cons pe_int (pa_cons pe_int pa_nil))) pe_int (pps_cons (pe_tup (pa_cons pe_int (pa_cons pe_int pa_nil))) pe_int pps_nil)) (by rfl) (by rfl) (fun z => by cases z) (by decide)))))) pss_nil)
      (pss_cons (ps_asg (pv 0) (pg_tup rfl (pgs_cons (pg_name (i := 3) nd rfl (Or.inl rfl)) (pgs_cons (pg_name (i := 4) nd rfl (Or.inl rfl)) pgs_nil))))
      (pss_cons (ps_set (i := 5) nd rfl (Or.inl rfl) (pe_dispT hu (pps_cons (pe_tup (pa_cons pe_int (pa_cons pe_int pa_nil))) pe_int pps_nil) (by rfl) (by rfl) (fun z => by cases z) (by decide)))
      (pss_cons (ps_for PassesOwn.never rfl (pi_tup (pv 4)) (pg_name (i := 6) nd rfl (Or.inl rfl))
        (pss_one (ps_set (i := 5) nd rfl (Or.inl rfl) (pe_call G__put_together (hr.mono (by omega)) rfl T.m__put_together T.F__put_together.kp T.b__put_together .nil pass0 (pa_cons (pv 5) (pa_cons (pe_call G__both_counts (hr.mono (by omega)) rfl T.m__both_counts T.F__both_counts.kp T.b__both_counts .nil pass0 (pa_cons (pv 6) (pa_cons (pv 1) (pa_cons (pv 2) pa_nil)))) pa_nil))))))
      (pss_cons (ps_set (i := 7) nd rfl (Or.inl rfl) pe_dnewT)
      (pss_cons (ps_lock (ps_for PassesOwn.never rfl (pi_itemsT (pv 5)) (pg_tup rfl (pgs_cons (pg_tup rfl (pgs_cons (pg_name (i := 8) nd rfl (Or.inl rfl)) (pgs_cons (pg_name (i := 9) nd rfl (Or.inl rfl)) pgs_nil))) (pgs_cons (pg_name (i := 10) nd rfl (Or.inl rfl)) pgs_nil)))
        (pss_cons (ps_set (i := 11) nd rfl (Or.inl rfl) (pe_tup (pa_cons (pe_ifExp (pt_cmpR op_ge (pv 8) (pv 3) (nomark _)) pe_int pe_int) (pa_cons (pe_ifExp (pt_cmpR op_ge (pv 9) (pv 3) (nomark _)) pe_int pe_int) pa_nil))))
      (pss_one (ps_dput hu (pv 7) (pv 11) (pe_op op_add (pe_dget2 hu (pv 7) (pv 11) pe_int ⟨rfl, rfl, rfl, rfl⟩) (pv 10)) rfl)))))
      (pss_one (ps_ret (pv 7))))))))), ?_⟩
    refine ⟨_, rfl, v, t, rfl, hv, _, rfl, ?_⟩
    cases hv with
    | b i =>
      rw [Tr.held] at k
      refine iteT ?_
      have cmp : ∀ a b : Int, PyData.eqv (.int a) (.int b) = decide (a = b) := fun a b => by
        rw [Bool.eq_iff_iff, decide_eq_true_iff]
        simp [PyData.eqv]
      have key1 : ∀ {j : Pr} {c : Nat} {a b : Nat}, a ≤ 1 → b ≤ 1 → j ∈ keys [((a, b), c)] → j.1 ≤ 1 ∧ j.2 ≤ 1 := fun ha hb hj => by
        unfold keys at hj
        rw [List.map_cons, List.map_nil, List.mem_singleton] at hj
        rw [hj]
        exact ⟨ha, hb⟩
      refine ⟨_, rfl, _, rfl, .int i, .int x, .int _, .int _, rfl, rfl, _, rfl, ?_⟩
      rw [cmp]
      by_cases hx : i = x
      · rw [decide_eq_true hx]
        subst hx
        refine iteT (disp1 1 0 1 fun D H' e hD hA => k D _ H' e hD hA (by simp [keys]) (fun j hj => key1 (by decide) (by decide) hj) (rep_one ne))
      rw [decide_eq_false hx]
      refine iteF ?_
      dsimp only
      refine ⟨_, rfl, _, rfl, .int i, .int y, .int _, .int _, rfl, rfl, _, rfl, ?_⟩
      rw [cmp]
      by_cases hy : i = y
      · rw [decide_eq_true hy]
        subst hy
        refine iteT (disp1 0 1 1 fun D H' e hD hA => k D _ H' e hD hA (by simp [keys]) (fun j hj => key1 (by decide) (by decide) hj) (rep_other ne))
      rw [decide_eq_false hy]
      refine iteF (disp2 0 0 1 1 1 1 (by decide) fun D H' e hD hA => k D _ H' e hD hA (by simp [keys]) (fun j hj => ?_) (rep_free hx hy))
      unfold keys at hj
      simp only [List.map_cons, List.map_nil, List.mem_cons, List.not_mem_nil, or_false] at hj
      rcases hj with rfl | rfl <;> exact ⟨by decide, by decide⟩
    | @t a p kk ws ps h1 h2 h3 h4 =>
      rw [Tr.held] at hl hnd k
      rw [Tr.deep] at hd
      rw [Tr.ok] at hok
      refine iteF ?_
      have hgl := helds_ge ps hok.2.2
      have hlw := h3.length
      dsimp only
      refine ⟨_, rfl, a, _, rfl, SqT.of h1, rfl, _, _, rfl, _, _, rfl, rfl, ?_⟩
      dsimp only
      refine seq_cut (fun σ H' => ∃ D0 : Addr, σ = [some (.ref a), some (.int x), some (.int y), some (.int kk), some (.ref p), some (.ref D0), none, none, none, none, none, none] ∧ Same H H' ∧ H D0 = none ∧ CntAt H' D0 [((0, 0), 1)]) (fun N hN => ?_) ?_
      · show tDispT _ _ _ _
        exact disp1 0 0 1 fun D0 H1 e1 hD00 hD0 => hN _ _ ⟨D0, rfl, e1, hD00, hD0⟩
      rintro σ H1 ⟨D0, rfl, e1, hD00, hD0⟩
      refine seq_cut (fun σ H' => ∃ (D : Addr) (A : Cn) (x6 : Option V), σ = [some (.ref a), some (.int x), some (.int y), some (.int kk), some (.ref p), some (.ref D), x6, none, none, none, none, none] ∧ Same H H' ∧ H D = none ∧ CntAt H' D A ∧ (keys A).Nodup ∧ (∀ k ∈ keys A, k.1 ≤ 24 ∧ k.2 ≤ 24) ∧ Rep A x y (Tr.helds ps) (kP x y ps)) (fun N hN => ?_) ?_
      · refine ⟨_, rfl, p, rfl, ⟨_, SqT.of (e1 _ _ h2)⟩, ?_⟩
        refine for_tup (K := K) (a := p) (xs := ws) (fun i σ H' => ∃ (D : Addr) (A : Cn) (x6 : Option V), σ = [some (.ref a), some (.int x), some (.int y), some (.int kk), some (.ref p), some (.ref D), x6, none, none, none, none, none] ∧ Same H H' ∧ H D = none ∧ CntAt H' D A ∧ (keys A).Nodup ∧ (∀ k ∈ keys A, k.1 ≤ i ∧ k.2 ≤ i) ∧ Rep A x y (Tr.helds (ps.take i)) (kP x y (ps.take i))) ?_ ?_ ?_ ?_
        · exact ⟨D0, _, none, rfl, e1, hD00, hD0, by simp [keys], fun k hk => by simp [keys] at hk; rw [hk]; exact ⟨Nat.le_refl _, Nat.le_refl _⟩, by rw [List.take_zero]; exact rep_nil x y⟩
        · rintro i σ H' _ ⟨D, A, x6, rfl, e, _⟩
          exact SqT.of (e _ _ h2)
        · rintro i z σ H' hz ⟨D, A, x6, rfl, e, hDH, hDA, nA, kA, rA⟩
          obtain ⟨pt, hpt, hat⟩ := h3.get hz
          have hi := (List.getElem?_eq_some_iff.mp hpt).1
          have hptm := List.mem_of_getElem? hpt
          have hdp := deep_get hpt
          have hhl := held_len hptm
          refine ⟨_, rfl, _, rfl, _, rfl, _, rfl, z, pt, x, y, rfl, hat.same e, oks_all.mp hok.2.2 pt hptm, by omega, nodup_of hptm hnd, by omega, ne, fun D2 B H2 e2 hD2 hB nB kB rB => ?_⟩
          have n12 : D ≠ D2 := fun q => by rw [q, CntAt] at hDA; rw [hDA] at hD2; cases hD2
          have lA := cn_len nA kA
          have lB := cn_len nB kB
          have hi24 : (i + 1) * (i + 1) ≤ 25 * 25 := Nat.mul_le_mul (by omega) (by omega)
          have tA := rep_total rA
          have tB := rep_total rB
          have hlt : (Tr.helds (ps.take i)).length ≤ 24 := by
            have := congrArg List.length (helds_take_drop ps i)
            rw [List.length_append] at this
            omega
          have p24 : 2 ^ (Tr.helds (ps.take i)).length ≤ 2 ^ 24 := Nat.pow_le_pow_right (by decide) hlt
          have p24' : 2 ^ pt.held.length ≤ 2 ^ 24 := Nat.pow_le_pow_right (by decide) (by omega)
          refine ⟨D, D2, A, B, rfl, e2 _ _ hDA, hB, n12, by omega, by omega, fun f hf => ?_, fun f hf => ?_, fun D3 F H3 e3 hD3 hF nF wF kF => ?_⟩
          · have := wsum_mem hf
            exact Nat.lt_of_le_of_lt (m := 2 ^ 24) (by omega) (by decide)
          · have := wsum_mem hf
            exact Nat.lt_of_le_of_lt (m := 2 ^ 24) (by omega) (by decide)
          refine ⟨D3, F, _, rfl, e.trans (e2.trans e3), (e.trans e2).free hD3, hF, nF, fun k hk => ?_, ?_⟩
          · obtain ⟨i1, h1', i2, h2', rfl⟩ := kF k hk
            have := kA i1 h1'
            have := kB i2 h2'
            unfold addP
            exact ⟨by dsimp only; omega, by dsimp only; omega⟩
          · rw [take_snoc hpt]
            refine rep_conv ?_ rA rB wF
            rw [← take_snoc hpt]
            have := helds_take_drop ps (i + 1)
            rw [this] at hnd
            exact (List.nodup_append.mp hnd).1
        · rintro σ H' ⟨D, A, x6, rfl, e, hDH, hDA, nA, kA, rA⟩
          rw [hlw, List.take_length] at rA
          exact hN _ _ ⟨D, A, x6, rfl, e, hDH, hDA, nA, fun k hk => by have := kA k hk; omega, rA⟩
      rintro σ H2 ⟨D, A, x6, rfl, e2, hDH, hDA, nA, kA, rA⟩
      refine fun F0 hF0 => ?_
      have hF1 : F0 ≠ D := fun z => by rw [z, hDA] at hF0; cases hF0
      have hF2 : H F0 = none := e2.free hF0
      dsimp only [gName]
      refine ⟨D, .dT (entC A), by rw [upd_ne hF1.symm]; exact hDA, trivial, fun od => ?_⟩
      refine ⟨_, rfl, D, od, entC A, rfl, upd_same, ?_⟩
      have hll : (entC A).length = A.length := List.length_map _
      have lA := cn_len nA kA
      have k0 : Kp3 F0 D D H2 (upd (upd H2 F0 (.dT [])) D (.frz od (.dT (entC A)))) := Kp3.put (Kp3.put (fun _ _ _ _ _ h => h) (.inl rfl)) (.inr (.inl rfl))
      refine for_it (J := Itit D od (entC A)) (walk_itemsT (kvs := entC A)) (fun i σ H' => ∃ (x8 x9 x10 x11 : Option V) (F : Cn), σ = [some (.ref a), some (.int x), some (.int y), some (.int kk), some (.ref p), some (.ref D), x6, some (.ref F0), x8, x9, x10, x11] ∧ Kp3 F0 D D H2 H' ∧ H' D = some (.frz od (.dT (entC A))) ∧ CntAt H' F0 F ∧ (keys F).Nodup ∧ F.length ≤ i ∧ (∀ φ, wsum F φ = wsum (A.take i) fun k => φ (doesP kk k)) ∧ (∀ k ∈ keys F, k.1 ≤ 1 ∧ k.2 ≤ 1)) ?_ ?_ ?_ ?_
      · refine ⟨none, none, none, none, [], rfl, k0, upd_same, ?_, List.nodup_nil, Nat.zero_le _, fun φ => rfl, fun k hk => nomatch hk⟩
        rw [CntAt, upd_ne hF1, upd_same]
        rfl
      · rintro i σ H' _ ⟨x8, x9, x10, x11, F, rfl, _, h1, _⟩
        exact h1
      · rintro i z σ H3 H4 hi ⟨x8, x9, x10, x11, F, rfl, k3, g1, g3, nF, lF, wF, kF⟩ ⟨Tu, kx, vx, q, hkv, hq, rfl, hTn, rfl⟩
        obtain ⟨e, he, rfl, rfl⟩ := ent_at hkv
        rw [pK_V] at hq
        have hi' := (List.getElem?_eq_some_iff.mp he).1
        have nT : ∀ {c : Addr} {o : HO}, H3 c = some o → c ≠ Tu := fun h z => by rw [z, hTn] at h; cases h
        have k4 : Kp3 F0 D D H2 (upd H3 Tu (.tup [.ref q, .int (e.2 : Int)])) := k3.new hTn
        have g14 : upd H3 Tu (.tup [.ref q, .int (e.2 : Int)]) D = some (.frz od (.dT (entC A))) := by rw [upd_ne (nT g1)]; exact g1
        have g34 : CntAt (upd H3 Tu (.tup [.ref q, .int (e.2 : Int)])) F0 F := by rw [CntAt, upd_ne (nT g3)]; exact g3
        have hq4 : upd H3 Tu (.tup [.ref q, .int (e.2 : Int)]) q = some (.tup [V.int (e.1.1 : Int), V.int (e.1.2 : Int)]) := by rw [upd_ne (nT hq)]; exact hq
        have hT4 : upd H3 Tu (.tup [.ref q, .int (e.2 : Int)]) Tu = some (.tup [.ref q, .int (e.2 : Int)]) := upd_same
        generalize upd H3 Tu (.tup [.ref q, .int (e.2 : Int)]) = H4 at k4 g14 g34 hq4 hT4 ⊢
        refine ⟨Tu, _, rfl, SqT.of hT4, rfl, _, _, rfl, q, _, rfl, SqT.of hq4, rfl, _, _, rfl, _, _, rfl, rfl, _, _, rfl, rfl, ?_⟩
        dsimp only
        refine seq_cut (fun σ H' => ∃ z : Addr, σ = [some (.ref a), some (.int x), some (.int y), some (.int kk), some (.ref p), some (.ref D), x6, some (.ref F0), some (.int (e.1.1 : Int)), some (.int (e.1.2 : Int)), some (.int (e.2 : Int)), some (.ref z)] ∧ Kp3 F0 D D H2 H' ∧ H' D = some (.frz od (.dT (entC A))) ∧ CntAt H' F0 F ∧ H' z = some (.tup ((pK (doesP kk e.1)).map kV))) (fun N hN => ?_) ?_
        · have fin : ∀ u1 u2 : Nat, doesP kk e.1 = (u1, u2) → ∀ z, H4 z = none → N [some (.ref a), some (.int x), some (.int y), some (.int kk), some (.ref p), some (.ref D), x6, some (.ref F0), some (.int (e.1.1 : Int)), some (.int (e.1.2 : Int)), some (.int (e.2 : Int)), some (.ref z)] (upd H4 z (.tup [V.int (u1 : Int), .int (u2 : Int)])) := fun u1 u2 hu12 z hz => by
            have nz : ∀ {c : Addr} {o : HO}, H4 c = some o → c ≠ z := fun h y => by rw [y, hz] at h; cases h
            refine hN _ _ ⟨z, rfl, k4.new hz, by rw [upd_ne (nz g14)]; exact g14, by rw [CntAt, upd_ne (nz g34)]; exact g34, ?_⟩
            rw [upd_same, hu12]
            rfl
          by_cases c1 : kk ≤ (e.1.1 : Int)
          · refine ⟨_, rfl, _, rfl, _, _, rfl, rfl, _, rfl, ?_⟩
            rw [decide_eq_true c1]
            by_cases c2 : kk ≤ (e.1.2 : Int)
            · refine iteT ⟨_, rfl, _, rfl, _, _, rfl, rfl, _, rfl, ?_⟩
              rw [decide_eq_true c2]
              exact iteT ⟨(by show 2 ≤ sizeLine; decide), fun z hz => fin 1 1 (by unfold doesP; rw [decide_eq_true c1, decide_eq_true c2]; rfl) z hz⟩
            · refine iteT ⟨_, rfl, _, rfl, _, _, rfl, rfl, _, rfl, ?_⟩
              rw [decide_eq_false c2]
              exact iteF ⟨(by show 2 ≤ sizeLine; decide), fun z hz => fin 1 0 (by unfold doesP; rw [decide_eq_true c1, decide_eq_false c2]; rfl) z hz⟩
          · refine ⟨_, rfl, _, rfl, _, _, rfl, rfl, _, rfl, ?_⟩
            rw [decide_eq_false c1]
            by_cases c2 : kk ≤ (e.1.2 : Int)
            · refine iteF ⟨_, rfl, _, rfl, _, _, rfl, rfl, _, rfl, ?_⟩
              rw [decide_eq_true c2]
              exact iteT ⟨(by show 2 ≤ sizeLine; decide), fun z hz => fin 0 1 (by unfold doesP; rw [decide_eq_false c1, decide_eq_true c2]; rfl) z hz⟩
            · refine iteF ⟨_, rfl, _, rfl, _, _, rfl, rfl, _, rfl, ?_⟩
              rw [decide_eq_false c2]
              exact iteF ⟨(by show 2 ≤ sizeLine; decide), fun z hz => fin 0 0 (by unfold doesP; rw [decide_eq_false c1, decide_eq_false c2]; rfl) z hz⟩
        rintro σ H5 ⟨z, rfl, k5, g15, g35, hz5⟩
        have hval : (valV (entC F) (pK (doesP kk e.1))).getD (.int 0) = .int (((getK F (doesP kk e.1)).getD 0 : Nat) : Int) := by
          rw [entC_get]
          cases getK F (doesP kk e.1) <;> rfl
        have hput := entC_put (A := F) (k := doesP kk e.1) (v := e.2) nF
        refine ⟨_, rfl, F0, rfl, .inr ⟨_, .inl g35⟩, _, rfl, _, DGet.t (k := pK (doesP kk e.1)) g35 hz5, ?_⟩
        rw [hval]
        refine ⟨_, rfl, _, _, rfl, rfl, _, rfl, _, rfl, F0, _, rfl, DPut.t (k := pK (doesP kk e.1)) g35 hz5 ?_, ?_⟩
        · show (entC F).length < sizeLine
          rw [show (entC F).length = F.length from List.length_map _]
          exact Nat.lt_of_le_of_lt (m := 1000) (by omega) (by decide)
        refine ⟨_, _, _, _, addK F (doesP kk e.1) e.2, rfl, k5.put (.inl rfl), by rw [upd_ne hF1.symm]; exact g15, ?_, add_nodup nF, ?_, fun φ => ?_, fun k hk => ?_⟩
        · rw [CntAt, upd_same, ← hput]
          rfl
        · have := add_len (doesP kk e.1) e.2 F
          omega
        · rw [wsum_add, wF, wsum_take he]
        · rcases add_mem hk with hk | hk
          · exact kF k hk
          · rw [hk]
            exact ⟨ind_le _, ind_le _⟩
      · rintro σ H3 ⟨x8, x9, x10, x11, F, rfl, k3, g1, g3, nF, lF, wF, kF⟩
        rw [hll, List.take_length] at wF
        dsimp only
        refine ⟨g1, _, rfl, k F0 F _ (fun c o h => ?_) hF2 (by rw [CntAt, upd_ne hF1]; exact g3) nF kF ?_⟩
        · by_cases c1 : c = D
          · rw [c1, hDH] at h
            cases h
          · rw [upd_ne c1]
            exact k3 c o (fun z => by rw [z, hF2] at h; cases h) c1 c1 (e2 _ _ h)
        · have := rep_does (b := kk) rA wF
          rw [Tr.held] at this
          exact this

/-! ### the gain of one over another *--/
def spGain : Sp := fun vs H Q _ => ∃ (v : V) (t : Tr) (x y : Int), vs = [v, .int x, .int y] ∧ At H v t ∧ t.ok ∧ t.held.Nodup ∧ t.deep < 40 ∧ t.held.length ≤ 24 ∧ x ∈ t.held ∧ y ∈ t.held ∧
  ∀ H' : Hp, Same H H' → Q (.int ((if x = y then 0 else gainN x y t : Nat) : Int)) H'
theorem ok_gain (T : Cd K mg) : FnOk P w K mg base (L2.CX P w) 65 T.a_gain T.d_gain p_gain spGain := by
  have nd : (n_gain : List Str).Nodup := sc_gain.nd
  have G_way_to : FnOk P w K mg base (L2.CX P w) 64 T.a_way_to T.d_way_to p_way_to (spWayTo T.c_NoButton) := ok_way_to T
  have G__both_counts : FnOk P w K mg base CX0 42 T.a__both_counts T.d__both_counts p__both_counts (spBoth 40) := ok__both_counts T 40
  refine T.F_gain.okX sc_gain (fun vs H Q E h => ?_) (fun cdv A outer s H vs Q E hr h => ?_)
  · obtain ⟨v, t, x, y, rfl, _⟩ := h
    rfl
  obtain ⟨v, t, x, y, rfl, hv, hok, hnd, hd, hl, hx, hy, k⟩ := h
  have hu64 := hr.units
  have hu := hu_of hr
  refine ⟨_, (pss_cons (ps_expr (pe_callS G_way_to (hr.mono (by decide)) rfl T.m_way_to T.F_way_to.kp T.b_way_to (fun σ => passAt (takes_of rfl rfl rfl rfl) σ) (pa_cons (pv 0) (pa_cons (pv 1) pa_nil))))
      (pss_cons (ps_expr (pe_callS G_way_to (hr.mono (by decide)) rfl T.m_way_to T.F_way_to.kp T.b_way_to (fun σ => passAt (takes_of rfl rfl rfl rfl) σ) (pa_cons (pv 0) (pa_cons (pv 2) pa_nil))))
      (pss_one (ps_ret (pe_ifExp (pt_cmpR (op_eqD hu64) (pv 1) (pv 2) (nomark _)) pe_int (pe_dget2 hu (pe_call G__both_counts (hr.mono (by decide)) rfl T.m__both_counts T.F__both_counts.kp T.b__both_counts .nil pass0 (pa_cons (pv 0) (pa_cons (pv 1) (pa_cons (pv 2) pa_nil)))) (pe_tup (pa_cons pe_int (pa_cons pe_int pa_nil))) pe_int ⟨rfl, rfl, rfl, rfl⟩)))))), ?_⟩
  refine ⟨_, rfl, _, rfl, fun _ => False, v, .int x, t, .int x, rfl, hv, by omega, .int x, fun _ ez _ p1 w1 H1 e1 _ _ => ?_, fun hz => absurd hx (hz x rfl)⟩
  refine ⟨_, rfl, _, rfl, fun _ => False, v, .int y, t, .int y, rfl, hv.same e1, by omega, .int y, fun _ ez2 _ p2 w2 H2 e2 _ _ => ?_, fun hz => absurd hy (hz y rfl)⟩
  have e12 := e1.trans e2
  dsimp only
  refine ⟨_, rfl, _, rfl, .int x, .int y, .int _, .int _, rfl, rfl, _, rfl, ?_⟩
  rw [show PyData.eqv (.int x) (.int y) = decide (x = y) from by rw [Bool.eq_iff_iff, decide_eq_true_iff]; simp [PyData.eqv]]
  by_cases ne : x = y
  · rw [decide_eq_true ne]
    have := k H2 e12
    rw [if_pos ne] at this
    exact iteT this
  · rw [decide_eq_false ne]
    refine iteF ⟨_, rfl, _, rfl, _, rfl, v, t, x, y, rfl, hv.same e12, hok, by omega, hnd, hl, ne, fun D A H3 e3 hD0 hD nA kA rA => ⟨D, rfl, .inr ⟨_, .inl hD⟩, (by show 2 ≤ sizeLine; decide), fun z hz => ?_⟩⟩
    have f := same_upd (.tup [V.int 1, .int 0]) hz
    refine ⟨_, DGet.t (k := pK (1, 0)) (f _ _ hD) upd_same, ?_⟩
    have hval : (valV (entC A) (pK (1, 0))).getD (.int 0) = .int (((getK A (1, 0)).getD 0 : Nat) : Int) := by
      rw [entC_get]
      cases getK A (1, 0) <;> rfl
    rw [hval, rep_gain nA rA]
    have := k _ (e12.trans (e3.trans f))
    rw [if_neg ne] at this
    exact this

/-! ### a grown tree *--/
theorem deeps_perm {A B : List Tr} (h : A.Perm B) : Tr.deeps A = Tr.deeps B := by
  have le : ∀ {A B : List Tr}, A.Perm B → Tr.deeps A ≤ Tr.deeps B := fun {A B} h => deeps_le.mpr fun q hq => (deeps_le (n := Tr.deeps B)).mp (Nat.le_refl _) q (h.mem_iff.mp hq)
  exact Nat.le_antisymm (le h) (le h.symm)
theorem ats_pairs {H : Hp} : ∀ {M : List (V × Tr)}, (∀ x ∈ M, At H x.1 x.2) → Ats H (M.map Prod.fst) (M.map Prod.snd)
  | [], _ => .nil
  | x :: M, h => .cons (h x List.mem_cons_self) (ats_pairs fun y hy => h y (List.mem_cons_of_mem _ hy))
def bts (L : List Int) : List (V × Tr) := L.map fun z => (V.int z, Tr.b z)
theorem bts_fst (L : List Int) : (bts L).map Prod.fst = L.map V.int := by
  unfold bts
  rw [List.map_map]
  rfl
theorem bts_snd (L : List Int) : (bts L).map Prod.snd = L.map Tr.b := by
  unfold bts
  rw [List.map_map]
  rfl
def spGrown : Sp := fun vs H Q _ => ∃ (b g l : Addr) (R : List Int), vs = [.ref b, .ref l] ∧ Bag H b g ∧ H l = some (.lst (R.map V.int)) ∧ 1 ≤ R.length ∧ R.length ≤ 15 ∧
  ∀ (v : V) (t : Tr) (H' : Hp), At H' v t → t.ok → t.held.Perm R → t.deep ≤ R.length → Keep b g H H' → Bag H' b g → Q v H'
theorem ok__law_grown (T : Cd K mg) : FnOk P w K mg base CX0 3 T.a__law_grown T.d__law_grown p__law_grown spGrown := by
  have nd : (n__law_grown : List Str).Nodup := sc__law_grown.nd
  have G__law_draw : FnOk P w K mg base CX0 1 T.a__law_draw T.d__law_draw p__law_draw spDraw := ok__law_draw T
  have G__law_pick : FnOk P w K mg base CX0 2 T.a__law_pick T.d__law_pick p__law_pick spPick := ok__law_pick T
  have G__law_mixed : FnOk P w K mg base CX0 2 T.a__law_mixed T.d__law_mixed p__law_mixed spMixedT := ok__law_mixedT T
  refine T.F__law_grown.ok sc__law_grown (fun vs H Q E h => ?_) (fun cdv A outer s H vs Q E hr h => ?_)
  · obtain ⟨b, g, l, R, rfl, _⟩ := h
    rfl
  obtain ⟨b, g, l, R, rfl, B, hl, hR1, hRl, k⟩ := h
  have hu64 := hr.units
  refine ⟨_, (pss_cons (ps_par (i := 2) (j := 3) (by rfl) nd rfl rfl (by decide) rfl rfl (pa_cons (pe_ix ix_list (pv 1) pe_int (fun _ _ => rfl)) (pa_cons (pe_callTy call_list_of (by rfl) T.z_list (by decide +kernel) (pa_cons (pe_slice sl_list (pv 1) (po_some pe_int) po_none) pa_nil)) pa_nil)) (by rfl))
      (pss_cons (ps_while PassesOwn.never (pt_cmpR (op_neD hu64) (pv 3) (pe_lst pa_nil) (nomark _))
        (pss_cons (ps_set (i := 4) nd rfl (Or.inl rfl) (pe_op op_add pe_int (pe_call G__law_draw (hr.mono (by decide)) rfl T.m__law_draw T.F__law_draw.kp T.b__law_draw .nil pass0 (pa_cons (pv 0) (pa_cons (pe_callB (call_min2 rfl) (by rfl) T.z_min (by decide +kernel) (pa_cons pe_int (pa_cons (pe_callB call_len_seq (by rfl) T.z_len (by decide +kernel) (pa_cons (pv 3) pa_nil)) pa_nil))) pa_nil)))))
      (pss_cons (ps_set (i := 5) nd rfl (Or.inl rfl) (pe_call G__law_mixed (hr.mono (by decide)) rfl T.m__law_mixed T.F__law_mixed.kp T.b__law_mixed .nil pass0 (pa_cons (pv 0) (pa_cons (pe_op op_cat (pe_slice sl_list (pv 3) po_none (po_some (pv 4))) (pe_lst (pa_cons (pv 2) pa_nil))) pa_nil))))
      (pss_one (ps_par (i := 2) (j := 3) (by rfl) nd rfl rfl (by decide) rfl rfl (pa_cons (pe_tup (pa_cons (pe_call G__law_pick (hr.mono (by decide)) rfl T.m__law_pick T.F__law_pick.kp T.b__law_pick .nil pass0 (pa_cons (pv 0) (pa_cons (pe_lst (pa_cons pe_int (pa_cons (pe_callB call_len_seq (by rfl) T.z_len (by decide +kernel) (pa_cons (pv 5) pa_nil)) pa_nil))) pa_nil))) (pa_cons (pe_callTy (T := "tuple") call_tuple_of (by rfl) T.z_tuple (by decide +kernel) (pa_cons (pv 5) pa_nil)) pa_nil))) (pa_cons (pe_slice sl_list (pv 3) (po_some (pv 4)) po_none) pa_nil)) (by rfl))))))
      (pss_one (ps_ret (pv 2))))), ?_⟩
  obtain ⟨z0, R0, rfl⟩ : ∃ z R0, R = z :: R0 := by
    cases R with
    | nil => simp at hR1
    | cons z R0 => exact ⟨z, R0, rfl⟩
  refine ⟨_, rfl, l, _, 0, .int z0, rfl, rfl, SqL.of hl, atI_nat (j := 0) rfl, ?_⟩
  refine ⟨_, rfl, 1, rfl, l, _, rfl, SqL.of hl, fun q0 hq0 => ⟨q0, _, rfl, .inl (SqL.of upd_same), fun q hq => ⟨_, _, rfl, ?_⟩⟩⟩
  rw [show (1 : Int) = ((1 : Nat) : Int) from rfl, cut_lo] at hq ⊢
  have f0 := (same_upd (.lst (((z0 :: R0).drop 1).map V.int)) hq0).trans (same_upd (.lst (((z0 :: R0).drop 1).map V.int)) hq)
  have hqH : H q = none := (same_upd (.lst (((z0 :: R0).drop 1).map V.int)) hq0).free hq
  have hq1 : upd (upd H q0 (.lst (((z0 :: R0).drop 1).map V.int))) q (.lst (((z0 :: R0).drop 1).map V.int)) q = some (.lst (R0.map V.int)) := upd_same
  generalize upd (upd H q0 (.lst (((z0 :: R0).drop 1).map V.int))) q (.lst (((z0 :: R0).drop 1).map V.int)) = H0 at f0 hq1 ⊢
  rw [List.length_cons] at hR1 hRl
  refine ⟨fun m σ H' => ∃ (rest : List Int) (p : Addr) (v : V) (t : Tr) (x4 x5 : Option V), σ = [some (.ref b), some (.ref l), some v, some (.ref p), x4, x5] ∧ Keep b g H H' ∧ Bag H' b g ∧ m = rest.length ∧ H p = none ∧ H' p = some (.lst (rest.map V.int)) ∧ At H' v t ∧ t.ok ∧ (t.held ++ rest).Perm (z0 :: R0) ∧ t.deep + rest.length ≤ R0.length, ⟨_, R0, q, .int z0, .b z0, none, none, rfl, .same f0, B.same f0, rfl, hqH, hq1, .b z0, by rw [Tr.ok]; trivial, by rw [Tr.held]; exact List.Perm.refl _, by rw [Tr.deep]; omega⟩, ?_⟩
  rintro m σ H1 ⟨rest, p, v, t, x4, x5, rfl, k1, B1, rfl, hpn, hp, hat, hok, hperm, hdp⟩
  refine ⟨_, rfl, (by show 0 ≤ sizeLine; decide), fun y0 hy0 => ?_⟩
  have f1 := same_upd (.lst []) hy0
  have hy0' : upd H1 y0 (.lst []) y0 = some (.lst []) := upd_same
  have k2 := k1.trans (.same f1)
  have B2 := B1.same f1
  have hp2 := f1 _ _ hp
  have hat2 := hat.same f1
  generalize upd H1 y0 (.lst []) = H2 at f1 hy0' k2 B2 hp2 hat2 ⊢
  refine ⟨_, _, .lst (SqL.of hp2) (dp_ints rest), .lst (SqL.of hy0') .nil, shaped_ints rest, shaped_nil, _, rfl, ?_⟩
  rw [eqv_nil]
  have op := B.off hpn
  by_cases hn : rest = []
  · rw [decide_eq_true hn]
    subst hn
    rw [List.append_nil] at hperm
    refine iteF ⟨_, rfl, k v t H2 hat2 hok hperm ?_ k2 B2⟩
    rw [List.length_cons]
    simp at hdp
    omega
  rw [decide_eq_false hn]
  have hpos : 0 < rest.length := List.length_pos_iff.mpr hn
  refine iteT ⟨fun σ' H' => ∃ (rest' : List Int) (p' : Addr) (v' : V) (t' : Tr) (x4 x5 : Option V), σ' = [some (.ref b), some (.ref l), some v', some (.ref p'), x4, x5] ∧ Keep b g H H' ∧ Bag H' b g ∧ rest'.length < rest.length ∧ H p' = none ∧ H' p' = some (.lst (rest'.map V.int)) ∧ At H' v' t' ∧ t'.ok ∧ (t'.held ++ rest').Perm (z0 :: R0) ∧ t'.deep + rest'.length ≤ R0.length, ?_, ?_⟩
  · rintro σ' H' ⟨rest', p', v', t', x4, x5, rfl, a1, a2, a3, a4⟩
    exact ⟨_, a3, rest', p', v', t', x4, x5, rfl, a1, a2, rfl, a4⟩
  refine seq_cut (fun σ H' => ∃ sz : Nat, σ = [some (.ref b), some (.ref l), some v, some (.ref p), some (.int (sz : Int)), x5] ∧ Keep b g H H' ∧ Bag H' b g ∧ KT H2 H' ∧ H' p = some (.lst (rest.map V.int)) ∧ 1 ≤ sz ∧ sz ≤ rest.length) (fun N hN => ?_) ?_
  · refine ⟨_, rfl, _, rfl, p, _, rfl, .inl (SqL.of hp2), _, _, rfl, b, g, _, rfl, B2, ?_, ?_, fun r H3 r0 r1 k3 B3 => ?_⟩
    · rw [List.length_map]
      split <;> omega
    · rw [List.length_map]
      split <;> omega
    rw [List.length_map] at r1
    refine ⟨_, _, rfl, rfl, hN _ _ ⟨(1 + r).toNat, ?_, k2.trans k3, B3, k3.kt B2, k3 _ _ op.1 op.2 hp2, by omega, by split at r1 <;> omega⟩⟩
    rw [Int.toNat_of_nonneg (by omega)]
    rfl
  rintro σ H3 ⟨sz, rfl, k3, B3, kt3, hp3, s1, s2⟩
  have hat3 := hat2.mono kt3
  have hbl : (bts (rest.take sz)).length = sz := by
    unfold bts
    rw [List.length_map, List.length_take, Nat.min_eq_left s2]
  have hLm : ∀ x ∈ bts (rest.take sz) ++ [(v, t)], At H3 x.1 x.2 ∧ x.2.deep + rest.length ≤ R0.length ∧ x.2.ok := fun x hx => by
    rcases List.mem_append.mp hx with hx | hx
    · obtain ⟨z, _, rfl⟩ := List.mem_map.mp hx
      exact ⟨.b z, by rw [Tr.deep]; omega, by rw [Tr.ok]; trivial⟩
    · rw [List.mem_singleton.mp hx]
      exact ⟨hat3, hdp, hok⟩
  refine seq_cut (fun σ H' => ∃ (pp : Addr) (M : List (V × Tr)), σ = [some (.ref b), some (.ref l), some v, some (.ref p), some (.int (sz : Int)), some (.ref pp)] ∧ Keep b g H3 H' ∧ Bag H' b g ∧ H3 pp = none ∧ H' pp = some (.lst (M.map Prod.fst)) ∧ M.Perm (bts (rest.take sz) ++ [(v, t)])) (fun N hN => ?_) ?_
  · refine ⟨_, rfl, _, rfl, _, rfl, _, rfl, p, _, rfl, SqL.of hp3, fun p4 hp4 => ⟨_, rfl, (by show 1 ≤ sizeLine; decide), fun p5 hp5 => ?_⟩⟩
    rw [cut_hi] at hp5 ⊢
    have f4 := same_upd (.lst ((rest.take sz).map V.int)) hp4
    have f5 := same_upd (.lst [v]) hp5
    refine ⟨p4, p5, _, _, rfl, rfl, f5 _ _ upd_same, upd_same, ?_, fun p6 hp6 => ?_⟩
    · rw [List.length_map, List.length_take]
      exact Nat.le_trans (m := 1000) (by simp; omega) (by decide)
    have f6 := same_upd (.lst ((rest.take sz).map V.int ++ [v])) hp6
    have e6 := f4.trans (f5.trans f6)
    have hp6' : upd (upd (upd H3 p4 (.lst ((rest.take sz).map V.int))) p5 (.lst [v])) p6 (.lst ((rest.take sz).map V.int ++ [v])) p6 = some (.lst ((bts (rest.take sz) ++ [(v, t)]).map Prod.fst)) := by
      rw [upd_same, List.map_append, bts_fst]
      rfl
    generalize upd (upd (upd H3 p4 (.lst ((rest.take sz).map V.int))) p5 (.lst [v])) p6 (.lst ((rest.take sz).map V.int ++ [v])) = H6 at e6 hp6' ⊢
    have B6 := B3.same e6
    refine ⟨b, g, p6, _, rfl, B6, hp6', fun x hx => (hLm x hx).1.same e6, fun x hx => by have := (hLm x hx).2.1; omega, by rw [List.length_append, hbl]; show sz + 1 ≤ 1000; omega, fun pp M H7 hperm7 k7 B7 h70 hpp => hN _ _ ⟨pp, M, rfl, (Keep.same e6).trans k7, B7, e6.free h70, hpp, hperm7⟩⟩
  rintro σ H4 ⟨pp, M, rfl, k4, B4, hpp0, hpp, hM⟩
  have opp := B3.off hpp0
  have hMl := hM.length_eq
  rw [List.length_append, hbl] at hMl
  have hMl : M.length = sz + 1 := hMl
  refine ⟨_, rfl, _, rfl, pp, _, rfl, .inl (SqL.of hpp), (by show 2 ≤ sizeLine; decide), fun pb hpb => ?_⟩
  have f5 := same_upd (.lst [V.int ((1 : Nat) : Int), .int ((M.map Prod.fst).length : Int)]) hpb
  have opb := B4.off hpb
  have B5 := B4.same f5
  refine ⟨b, g, pb, _, rfl, B5, upd_same, opb.2, (fun z => by cases z), by show 2 < 1000000; decide, fun u H6 hu k6 B6 => ?_⟩
  obtain ⟨x, rfl, x1, x2⟩ : ∃ x : Int, u = .int x ∧ 1 ≤ x ∧ x ≤ M.length := by
    simp only [List.mem_cons, List.not_mem_nil, or_false, List.length_map] at hu
    rcases hu with rfl | rfl
    · exact ⟨1, rfl, by omega, by omega⟩
    · exact ⟨_, rfl, by omega, by omega⟩
  have k46 := (Keep.same f5).trans k6
  have hpp6 := k46 _ _ opp.1 opp.2 hpp
  have hp6 := (k4.trans k46) _ _ op.1 op.2 hp3
  refine ⟨_, rfl, pp, _, rfl, .inl ⟨SqL.of hpp6, fun p10 hp10 => ⟨(by show 2 ≤ sizeLine; decide), fun a ha => ?_⟩⟩⟩
  have npa : p10 ≠ a := ne_of_none upd_same ha
  have g1 := same_upd (.tup (M.map Prod.fst)) hp10
  have g2 := same_upd (.tup [V.int x, .ref p10]) ha
  have hp10' := g2 _ _ (upd_same (H := H6) (a := p10) (o := .tup (M.map Prod.fst)))
  have ha' : upd (upd H6 p10 (.tup (M.map Prod.fst))) a (.tup [V.int x, .ref p10]) a = some (.tup [V.int x, .ref p10]) := upd_same
  have g12 := g1.trans g2
  generalize upd (upd H6 p10 (.tup (M.map Prod.fst))) a (.tup [V.int x, .ref p10]) = HA at g12 hp10' ha' ⊢
  have kA : Keep b g H3 HA := (k4.trans k46).trans (.same g12)
  have BA := B6.same g12
  have hpA := g12 _ _ hp6
  refine ⟨_, rfl, _, rfl, _, rfl, p, _, rfl, SqL.of hpA, fun p11 hp11 => ?_⟩
  dsimp only [tNoPart] at hp11 ⊢
  rw [cut_lo] at *
  have f11 := same_upd (.lst ((rest.drop sz).map V.int)) hp11
  have kF : Keep b g H (upd HA p11 (.lst ((rest.drop sz).map V.int))) := (k3.trans kA).trans (.same f11)
  have hat : Ats HA (M.map Prod.fst) (M.map Prod.snd) := ats_pairs fun y hy => (hLm y (hM.mem_iff.mp hy)).1.mono (kA.kt B3)
  have hMh : (Tr.helds (M.map Prod.snd)).Perm (rest.take sz ++ t.held) := by
    refine (helds_perm (hM.map Prod.snd)).trans ?_
    rw [List.map_append, bts_snd]
    show (Tr.helds (_ ++ [t])).Perm _
    rw [helds_snoc, flat_helds]
  have hMd : Tr.deeps (M.map Prod.snd) ≤ R0.length - rest.length := deeps_le.mpr fun q hq => by
    obtain ⟨y, hy, rfl⟩ := List.mem_map.mp hq
    have := (hLm y (hM.mem_iff.mp hy)).2.1
    omega
  refine ⟨_, _, rfl, rest.drop sz, p11, .ref a, .t x (M.map Prod.snd), some (.int (sz : Int)), some (.ref pp), rfl, kF, BA.same f11, by rw [List.length_drop]; omega, B.free (k3.trans kA) BA hp11, upd_same, (At.t ha' hp10' hat (by rw [List.length_map]; omega)).same f11, ?_, ?_, ?_⟩
  · rw [Tr.ok, List.length_map, oks_all]
    refine ⟨by omega, by omega, fun q hq => ?_⟩
    obtain ⟨y, hy, rfl⟩ := List.mem_map.mp hq
    exact (hLm y (hM.mem_iff.mp hy)).2.2
  · rw [Tr.held]
    refine .trans ?_ hperm
    refine (hMh.append_right _).trans ?_
    refine List.perm_append_comm.trans ?_
    rw [← List.append_assoc]
    refine (List.perm_append_comm.append_right _).trans ?_
    rw [List.take_append_drop]
    exact List.perm_append_comm
  · rw [Tr.deep, List.length_drop]
    omega

/-! ### who gains, by lots *--/
def goesP (t : Tr) (x y : Int) (L : List Int) : Bool := t.go (L ++ [x]) && !t.go (L ++ [y])
def restOf (R : List Int) (x y : Int) : List Int := R.filter fun z => !decide (z ∈ ([x, y] : List Int))
theorem go_with (t : Tr) (L : List Int) (x : Int) : t.go (L ++ [x]) = gp (wi (inS L) x) t := by
  rw [go_gp]
  refine gp_congr _ fun z _ => ?_
  unfold wi inS
  rw [Bool.eq_iff_iff, Bool.or_eq_true, decide_eq_true_iff, decide_eq_true_iff, decide_eq_true_iff, List.mem_append, List.mem_singleton]
  exact ⟨fun h => h.elim .inr .inl, fun h => h.elim .inr .inl⟩
theorem rest_mem {R : List Int} {x y z : Int} : z ∈ restOf R x y ↔ z ∈ R ∧ z ≠ x ∧ z ≠ y := by
  unfold restOf
  rw [List.mem_filter]
  simp
theorem sum_ind {α : Type} (P : α → Bool) : ∀ l : List α, (l.map fun L => if P L = true then 1 else 0).sum = (l.filter P).length
  | [] => rfl
  | a :: l => by
    rw [List.map_cons, List.sum_cons, sum_ind P l, List.filter_cons]
    cases P a <;> simp <;> omega
theorem rest_perm {R : List Int} {x y : Int} (n : R.Nodup) (hx : x ∈ R) (hy : y ∈ R) (ne : x ≠ y) : R.Perm (x :: y :: restOf R x y) := by
  refine (List.perm_ext_iff_of_nodup n ?_).mpr fun z => ?_
  · have n2 : (restOf R x y).Nodup := n.sublist List.filter_sublist
    rw [List.nodup_cons, List.nodup_cons]
    refine ⟨fun h => ?_, fun h => (rest_mem.mp h).2.2 rfl, n2⟩
    rcases List.mem_cons.mp h with h | h
    · exact ne h
    · exact (rest_mem.mp h).2.1 rfl
  · rw [List.mem_cons, List.mem_cons, rest_mem]
    constructor
    · intro h
      by_cases c : z = x
      · exact .inl c
      · by_cases d : z = y
        · exact .inr (.inl d)
        · exact .inr (.inr ⟨h, c, d⟩)
    · rintro (rfl | rfl | h)
      · exact hx
      · exact hy
      · exact h.1
theorem gain_lots {t : Tr} {R : List Int} {x y : Int} (hp : t.held.Perm R) (n : R.Nodup) (hx : x ∈ R) (hy : y ∈ R) (ne : x ≠ y) : gainN x y t = ((lotsOf (restOf R x y)).filter (goesP t x y)).length := by
  have hs : SetWise fun L => if gp (wi (inS L) x) t = true ∧ gp (wi (inS L) y) t = false then 1 else 0 := fun L M e => by
    have : inS L = inS M := by
      funext z
      unfold inS
      rw [Bool.eq_iff_iff, decide_eq_true_iff, decide_eq_true_iff]
      exact e z
    dsimp only
    rw [this]
  unfold gainN
  rw [cs_perm hp hs, cs_perm (rest_perm n hx hy ne) hs, cs, cs, cs]
  have w1 : wa x y x = 0 := by simp [wa]
  have w2 : wa x y y = 0 := by simp [wa]
  rw [w1, w2, show wb x = 1 from rfl, show wb y = 1 from rfl, Nat.zero_mul, Nat.zero_mul, Nat.one_mul, Nat.one_mul, Nat.add_zero]
  rw [cs_pos_congr (a' := oneW) (b' := oneW) fun z hz => by
    obtain ⟨_, h1, h2⟩ := rest_mem.mp hz
    exact ⟨by simp [wa, oneW, h1, h2], rfl⟩]
  rw [← cs_lots, ← sum_ind]
  congr 1
  refine List.map_congr_left fun L _ => ?_
  unfold goesP
  rw [go_with, go_with]
  cases gp (wi (inS L) x) t <;> cases gp (wi (inS L) y) t <;> simp
theorem gain_worse {t : Tr} {R : List Int} {x y : Int} (hp : t.held.Perm R) : (lotsOf (restOf R x y)).filter (goesP t x y) = [] ↔ ¬ Worse t y x := by
  rw [List.filter_eq_nil_iff]
  constructor
  · rintro h ⟨S, s1, s2, g1, g2⟩
    refine h ((restOf R x y).filter S) (lots_mem List.filter_sublist) ?_
    have e : ∀ u, gp (wi (inS ((restOf R x y).filter S)) u) t = gp (wi S u) t := fun u => gp_congr t fun z hz => by
      unfold wi inS
      congr 1
      rw [Bool.eq_iff_iff, decide_eq_true_iff, List.mem_filter, rest_mem]
      refine ⟨fun q => q.2, fun q => ⟨⟨hp.mem_iff.mp hz, fun z' => ?_, fun z' => ?_⟩, q⟩⟩
      · rw [z', s2] at q
        cases q
      · rw [z', s1] at q
        cases q
    unfold goesP
    rw [go_with, go_with, e, e, g1, g2]
    rfl
  · intro h L hL c
    unfold goesP at c
    rw [go_with, go_with, Bool.and_eq_true, Bool.not_eq_true'] at c
    have sub := (lots_sub hL).subset
    refine h ⟨inS L, ?_, ?_, c.1, c.2⟩
    · exact decide_eq_false fun q => (rest_mem.mp (sub q)).2.2 rfl
    · exact decide_eq_false fun q => (rest_mem.mp (sub q)).2.1 rfl
theorem asc_subl {L zs : List Int} (hL : L.Pairwise (· < ·)) (hz : zs.Pairwise (· < ·)) (h : ∀ z ∈ zs, z ∈ L) : zs.Sublist L := by
  have e : zs = L.filter fun z => decide (z ∈ zs) := by
    refine asc_one (hz.imp fun h => by omega) ((hL.sublist List.filter_sublist).imp fun h => by omega) ((List.perm_ext_iff_of_nodup (hz.imp fun h => by omega) ((hL.imp fun h => by omega : L.Nodup).sublist List.filter_sublist)).mpr fun x => ?_)
    rw [List.mem_filter, decide_eq_true_iff]
    exact ⟨fun q => ⟨h x q, q⟩, fun q => q.2⟩
  rw [e]
  exact List.filter_sublist
theorem show_in {t : Tr} {R L : List Int} {x y : Int} (o : t.ok) (n : t.held.Nodup) (hp : t.held.Perm R) (hs : R.Pairwise (· < ·)) (h : ShowL t y x L) (no : ¬ (y = x ∨ Nw y x (tell t))) : L ∈ (lotsOf (restOf R x y)).filter (goesP t x y) := by
  obtain ⟨a1, a2, a3, a4⟩ := h.is o n no
  refine List.mem_filter.mpr ⟨lots_mem (asc_subl (hs.sublist List.filter_sublist) a2 fun z hz => rest_mem.mpr ⟨hp.mem_iff.mp (a1 z hz).1, (a1 z hz).2.2, (a1 z hz).2.1⟩), ?_⟩
  unfold goesP
  rw [a3, a4]
  rfl

/-! ### the law *--/
theorem shows_bool (x : Bool) : ShowsD (.bool x) := by
  refine showsD_mk ?_ ?_ ?_ <;> cases x <;> decide +kernel
theorem shows_nat {n : Nat} (h : n ≤ 1000) : ShowsD (.int (n : Int)) := by
  have h1 := able_ints (M := [(n : Int)]) fun x hx => by
    rw [List.mem_singleton.mp hx]
    omega
  refine showsD_mk ?_ ?_ ?_
  · simpa [PyData.showableAll] using h1
  · simp [PyData.depth]
  · rw [costD]
    decide
theorem costDs_small : ∀ l : List Int, costDs (l.map .int) ≤ 1930 * l.length
  | [] => by simp [costDs]
  | z :: l => by
    have := costDs_small l
    rw [List.map_cons, costDs, costD, List.length_cons]
    omega
theorem shows_tup {L : List Int} (h : ∀ z ∈ L, 0 ≤ z ∧ z ≤ 99) (hl : L.length ≤ 100) : ShowsD (.tuple (L.map .int)) := by
  have h1 := able_ints (M := L) fun x hx => by have := h x hx; omega
  have h2 := depth_ints L
  have h3 := costDs_small L
  refine showsD_mk ?_ ?_ ?_
  · simp [PyData.showable, h1]
  · simp only [PyData.depth, h2]
    omega
  · simp only [costD]
    omega
theorem Bag.keepF {H H' : Hp} {b g f : Addr} (B : Bag H b g) (h1 : f ≠ b) (h2 : f ≠ g) (k : KeepF f H H') : Bag H' b g := by
  obtain ⟨ms, m, t, g1, g2, g3⟩ := B.ex
  exact ⟨ms, m, t, k _ _ h1.symm g1, k _ _ h2.symm g2, g3⟩
theorem lts_at {X : Addr → Prop} {H : Hp} : ∀ {vs : List V} {ls : List (List Int)}, Lts H vs ls → AtXs X H vs (ls.map fun l => PyData.tuple (l.map PyData.int))
  | _, _, .nil => .nil
  | _, _, .cons h t => .cons (.tup h (atx_ints _)) (lts_at t)
theorem lts_dp {K : PySem.W.Frag} {H : Hp} : ∀ {vs : List V} {ls : List (List Int)}, Lts H vs ls → DpAll K H vs (ls.map fun l => PyData.tuple (l.map PyData.int))
  | _, _, .nil => .nil
  | _, _, .cons h t => .cons (.tup (SqT.of h) (dpAll_ints _)) (lts_dp t)
theorem shaped_lots (F : List (List Int)) : SeqAt.shaped (.list (F.map fun l => PyData.tuple (l.map PyData.int))) = true := by
  have h1 : ∀ F : List (List Int), PyData.canLayAll0 (F.map fun l => PyData.tuple (l.map PyData.int)) = true ∧ PyData.depthAll (F.map fun l => PyData.tuple (l.map PyData.int)) ≤ 1 := fun F => by
    induction F with
    | nil => simp [PyData.canLayAll0, PyData.depthAll]
    | cons l F ih => simp [PyData.canLayAll0, PyData.canLay0, PyData.depthAll, PyData.depth, lay_ints, depth_ints, ih.1]; omega
  obtain ⟨a1, a2⟩ := h1 F
  unfold SeqAt.shaped
  rw [Bool.and_eq_true]
  refine ⟨by rw [PyData.canLay0]; exact a1, decide_eq_true ?_⟩
  rw [PyData.depth]
  omega
theorem eqv_lots (F : List (List Int)) : PyData.eqv (.list (F.map fun l => PyData.tuple (l.map PyData.int))) (.list []) = decide (F = []) := by
  cases F with
  | nil => simp [PyData.eqv, PyData.eqvAll]
  | cons l F => simp [PyData.eqv, PyData.eqvAll]
def spLaw (K : PySem.W.Frag) : Sp := fun vs H Q _ => ∃ (a : Addr) (ns : List Int), vs = [.ref a] ∧ SqL K H a (ns.map V.int) ∧ ns.length ≤ 63 ∧ ∀ H', Q (.bl true) H'
theorem ok_law (T : Cd K mg) : FnG P w K mg base 72 T.a_law T.d_law p_law (spLaw K) := by
  have nd : (n_law : List Str).Nodup := sc_law.nd
  have G__law_bag : FnOk P w K mg base CX0 1 T.a__law_bag T.d__law_bag p__law_bag (spBag K) := ok__law_bag T
  have G__law_draw : FnOk P w K mg base CX0 1 T.a__law_draw T.d__law_draw p__law_draw spDraw := ok__law_draw T
  have G__law_pick : FnOk P w K mg base CX0 2 T.a__law_pick T.d__law_pick p__law_pick spPick := ok__law_pick T
  have G__law_mixed : FnOk P w K mg base CX0 2 T.a__law_mixed T.d__law_mixed p__law_mixed spMixed := ok__law_mixed T
  have G__law_buttons : FnOk P w K mg base CX0 2 T.a__law_buttons T.d__law_buttons p__law_buttons spButtons := ok__law_buttons T
  have G__law_tree : FnOk P w K mg base CX0 8 T.a__law_tree T.d__law_tree p__law_tree (spTree 5) := ok__law_tree T 5
  have G__law_grown : FnOk P w K mg base CX0 3 T.a__law_grown T.d__law_grown p__law_grown spGrown := ok__law_grown T
  have G__law_every : FnOk P w K mg base CX0 1 T.a__law_every T.d__law_every p__law_every spLots := ok__law_every T
  have G__law_goes : FnOk P w K mg base CX0 62 T.a__law_goes T.d__law_goes p__law_goes (spGoes K 60) := ok__law_goes T 60
  have G_worse_lot : FnOk P w K mg base (L2.CX P w) 68 T.a_worse_lot T.d_worse_lot p_worse_lot (spWorse T.c_NoButton) := ok_worse_lot T
  have G_gain : FnOk P w K mg base (L2.CX P w) 65 T.a_gain T.d_gain p_gain spGain := ok_gain T
  have G_no_worse : FnOk P w K mg base (L2.CX P w) 67 T.a_no_worse T.d_no_worse p_no_worse (spNoWorse T.c_NoButton) := ok_no_worse T
  refine okG T.F_law sc_law (fun vs H Q E h => ?_) (fun cdv A outer s H vs Q hr hgd h => ?_)
  · obtain ⟨a, ns, rfl, _⟩ := h
    rfl
  obtain ⟨a, ns, rfl, hS, hns, k⟩ := h
  have hu64 := hr.units
  have hu := hu_of hr
  refine ⟨_, (pss_cons (ps_set (i := 1) nd rfl (Or.inl rfl) (pe_call G__law_bag (hr.mono (by decide)) rfl T.m__law_bag T.F__law_bag.kp T.b__law_bag .nil pass0 (pa_cons (pv 0) pa_nil)))
      (pss_cons (ps_set (i := 2) nd rfl (Or.inl rfl) (pe_call G__law_buttons (hr.mono (by decide)) rfl T.m__law_buttons T.F__law_buttons.kp T.b__law_buttons .nil pass0 (pa_cons (pv 1) (pa_cons (pe_op op_add pe_int (pe_call G__law_draw (hr.mono (by decide)) rfl T.m__law_draw T.F__law_draw.kp T.b__law_draw .nil pass0 (pa_cons (pv 1) (pa_cons pe_int pa_nil)))) pa_nil))))
      (pss_cons (ps_set (i := 3) nd rfl (Or.inl rfl) (pe_call G__law_mixed (hr.mono (by decide)) rfl T.m__law_mixed T.F__law_mixed.kp T.b__law_mixed .nil pass0 (pa_cons (pv 1) (pa_cons (pv 2) pa_nil))))
      (pss_cons (ps_set (i := 4) nd rfl (Or.inl rfl) (pe_ifExp (pt_cmpR op_eq (pe_call G__law_draw (hr.mono (by decide)) rfl T.m__law_draw T.F__law_draw.kp T.b__law_draw .nil pass0 (pa_cons (pv 1) (pa_cons pe_int pa_nil))) pe_int (nomark _)) (pe_call G__law_grown (hr.mono (by decide)) rfl T.m__law_grown T.F__law_grown.kp T.b__law_grown .nil pass0 (pa_cons (pv 1) (pa_cons (pv 3) pa_nil))) (pe_call G__law_tree (hr.mono (by decide)) rfl T.m__law_tree T.F__law_tree.kp T.b__law_tree .nil pass0 (pa_cons (pv 1) (pa_cons (pv 3) (pa_cons pe_int pa_nil))))))
      (pss_cons (ps_for PassesOwn.never rfl (pi_list (pv 2)) (pg_name (i := 5) nd rfl (Or.inr rfl))
        (pss_cons (ps_asg (pe_tup (pa_cons (pe_call G__law_pick (hr.mono (by decide)) rfl T.m__law_pick T.F__law_pick.kp T.b__law_pick .nil pass0 (pa_cons (pv 1) (pa_cons (pv 2) pa_nil))) (pa_cons (pe_lst pa_nil) pa_nil))) (pg_tup rfl (pgs_cons (pg_name (i := 6) nd rfl (Or.inr rfl)) (pgs_cons (pg_name (i := 7) nd rfl (Or.inl rfl)) pgs_nil))))
      (pss_cons (ps_if (pt_cmpR op_eq (pv 5) (pv 6) (nomark _)) (pss_one ps_continue) pss_nil)
      (pss_cons (ps_for PassesOwn.never rfl (pi_list (pe_call G__law_every (hr.mono (by decide)) rfl T.m__law_every T.F__law_every.kp T.b__law_every .nil pass0 (pa_cons (pe_lc (own := [("_law_button", 10)]) rfl nd (pi_list (pv 2)) (blkOk_by (own := [("_law_button", 10)]) (N := n_law) (sc := defScope s_law) (by decide +kernel)) (fun _ _ _ _ _ => (pg_name (i := 10) nd rfl (Or.inl rfl))) (fun _ _ _ _ _ => (pts_one (pt_cmpR (show OpR _ (compareOp .NotIn) (rIn K true) from op_notIn_seq) (pv 10) (pe_tup (pa_cons (pv 5) (pa_cons (pv 6) pa_nil))) rfl))) (fun _ _ _ _ _ => (pv 10))) pa_nil))) (pg_name (i := 8) nd rfl (Or.inl rfl))
        (pss_one (ps_if (PW.pt (pw_and (pt_val (pe_call G__law_goes (hr.mono (by decide)) rfl T.m__law_goes T.F__law_goes.kp T.b__law_goes .nil pass0 (pa_cons (pv 4) (pa_cons (pe_op op_catA (pv 8) (pe_tup (pa_cons (pv 5) pa_nil))) pa_nil)))) (pw_and1 (pt_not (pt_val (pe_call G__law_goes (hr.mono (by decide)) rfl T.m__law_goes T.F__law_goes.kp T.b__law_goes .nil pass0 (pa_cons (pv 4) (pa_cons (pe_op op_catA (pv 8) (pe_tup (pa_cons (pv 6) pa_nil))) pa_nil)))))))) (pss_one (ps_expr (pe_bm PySem.F.plainAttrs_list PySem.F.slot_list_append PySem.F.type_list_append mt_append (pv 7) (pa_cons (pv 8) pa_nil)))) pss_nil)))
      (pss_cons (ps_set (i := 9) nd rfl (Or.inl rfl) (pe_call G_worse_lot (hr.mono (by decide)) rfl T.m_worse_lot T.F_worse_lot.kp T.b_worse_lot .nil passL (pa_cons (pv 4) (pa_cons (pv 6) (pa_cons (pv 5) pa_nil)))))
      (pss_cons (ps_if (PW.pt (pw_or (pt_cmpR op_ne (pe_callB (call_reprD hgd hu64) (by rfl) T.z_repr (by decide +kernel) (pa_cons (pe_call G_gain (hr.mono (by decide)) rfl T.m_gain T.F_gain.kp T.b_gain .nil passL (pa_cons (pv 4) (pa_cons (pv 5) (pa_cons (pv 6) pa_nil)))) pa_nil)) (pe_callB (call_reprD hgd hu64) (by rfl) T.z_repr (by decide +kernel) (pa_cons (pe_callB call_len_seq (by rfl) T.z_len (by decide +kernel) (pa_cons (pv 7) pa_nil)) pa_nil)) (nomark _)) (pw_or1 (pt_cmpR op_ne (pe_callB (call_reprD hgd hu64) (by rfl) T.z_repr (by decide +kernel) (pa_cons (pe_call G_no_worse (hr.mono (by decide)) rfl T.m_no_worse T.F_no_worse.kp T.b_no_worse .nil passL (pa_cons (pv 4) (pa_cons (pv 6) (pa_cons (pv 5) pa_nil)))) pa_nil)) (pe_callB (call_reprD hgd hu64) (by rfl) T.z_repr (by decide +kernel) (pa_cons (pe_cmpR (op_eqD hu64) (pv 7) (pe_lst pa_nil) (nomark _)) pa_nil)) (nomark _))))) (pss_one (ps_ret pe_bl)) pss_nil)
      (pss_one (ps_if (PW.pt (pw_or (PW.pt (pw_and (pt_cmpR (op_eqD hu64) (pv 7) (pe_lst pa_nil) (nomark _)) (pw_and1 (pt_cmpR op_notN (pv 9) pe_non (nomark _))))) (pw_or1 (PW.pt (pw_and (pt_cmpR (op_neD hu64) (pv 7) (pe_lst pa_nil) (nomark _)) (pw_and1 (pt_cmpR op_notIn_seq (pe_callB (call_reprD hgd hu64) (by rfl) T.z_repr (by decide +kernel) (pa_cons (pv 9) pa_nil)) (pe_lc (own := [("_law_some", 8)]) rfl nd (pi_list (pv 7)) (blkOk_by (own := [("_law_some", 8)]) (N := n_law) (sc := defScope s_law) (by decide +kernel)) (fun _ _ _ _ _ => (pg_name (i := 8) nd rfl (Or.inl rfl))) (fun _ _ _ _ _ => pts_nil) (fun _ _ _ _ _ => (pe_callB (show CallR _ (.builtin "repr") (rReprD K) from (call_reprD hgd hu64)) (by rfl) T.z_repr (by decide +kernel) (pa_cons (pv 8) pa_nil)))) rfl))))))) (pss_one (ps_ret pe_bl)) pss_nil))))))))
      (pss_one (ps_ret pe_bl))))))), ?_⟩
  refine ⟨_, rfl, a, ns, rfl, hS, by omega, fun b g H1 e1 hb hg B1 => ?_⟩
  refine ⟨_, rfl, _, rfl, b, g, 7, rfl, B1, by omega, by omega, fun r1 H2 r10 r11 k2 B2 => ⟨_, _, rfl, rfl, b, g, 1 + r1, rfl, B2, by omega, by omega, fun row R H3 hRl hsort hmem k3 B3 hrow hR => ?_⟩⟩
  have orow := B2.off hrow
  have hRn : R.Nodup := hsort.imp fun h z => by omega
  have hR7 : 1 ≤ R.length ∧ R.length ≤ 7 := by omega
  have hRne : R ≠ [] := List.ne_nil_of_length_pos (by omega)
  refine ⟨_, rfl, _, rfl, b, g, row, R, rfl, B3, hR, by omega, fun p2 M2 H4 hperm k4 B4 hp2 hM2 => ?_⟩
  have o2 := B3.off hp2
  have hl2 := hperm.length_eq
  have hR4 := k4 _ _ orow.1 orow.2 hR
  dsimp only [gName]
  refine seq_cut (fun σ H' => ∃ (v : V) (t : Tr), σ = [some (.ref a), some (.ref b), some (.ref row), some (.ref p2), some v, none, none, none, none, none, none] ∧ Keep b g H4 H' ∧ Bag H' b g ∧ At H' v t ∧ t.ok ∧ t.held.Perm R ∧ t.deep ≤ 8) (fun N hN => ?_) ?_
  · refine ⟨_, rfl, b, g, 2, rfl, B4, by decide, by decide, fun r5 H5 r50 r51 k5 B5 => ⟨rfl, _, rfl, ?_⟩⟩
    have hp5 := k5 _ _ o2.1 o2.2 hM2
    refine ite2 (fun _ => ?_) (fun _ => ?_)
    · refine ⟨_, rfl, _, rfl, b, g, p2, M2, rfl, B5, hp5, by omega, by omega, fun v t H6 hat hok hh hd k6 B6 => ?_⟩
      exact hN _ _ ⟨v, t, rfl, k5.trans k6, B6, hat, hok, hh.trans hperm, by omega⟩
    · refine ⟨_, rfl, _, rfl, b, g, p2, 3, M2, rfl, B5, hp5, o2.2, List.ne_nil_of_length_pos (by omega), by omega, by omega, by omega, fun v t H6 hat hh hd hok k6 B6 => ?_⟩
      exact hN _ _ ⟨v, t, rfl, k5.trans k6, B6, hat, hok, by rw [hh]; exact hperm, Nat.le_trans hd (by decide)⟩
  rintro σ H5 ⟨v, t, rfl, k5, B5, hat, hok, hpt, hdp⟩
  have hR5 := k5 _ _ orow.1 orow.2 hR4
  have hndt : t.held.Nodup := hpt.nodup_iff.mpr hRn
  have hin : ∀ x, x ∈ t.held ↔ x ∈ R := fun x => hpt.mem_iff
  have htl : t.held.length = R.length := hpt.length_eq
  refine ⟨_, rfl, row, rfl, ⟨_, SqL.of hR5⟩, ?_⟩
  refine for_list (K := K) (a := row) (xs := R.map V.int) (fun i σ H' => ∃ x5 x6 x7 x8 x9 x10 : Option V, σ = [some (.ref a), some (.ref b), some (.ref row), some (.ref p2), some v, x5, x6, x7, x8, x9, x10] ∧ Keep b g H5 H' ∧ Bag H' b g) ?_ ?_ ?_ ?_
  · exact ⟨_, _, _, _, _, _, rfl, Keep.refl _ _ _, B5⟩
  · rintro i σ H' _ ⟨x5, x6, x7, x8, x9, x10, rfl, k6, _⟩
    exact SqL.of (k6 _ _ orow.1 orow.2 hR5)
  · rintro i u σ H6 hu ⟨x5, x6, x7, x8, x9, x10, rfl, k6, B6⟩
    obtain ⟨x, hx, rfl⟩ := get_ints hu
    have hxR := List.mem_of_getElem? hx
    have hR6 := k6 _ _ orow.1 orow.2 hR5
    have hat6 := hat.mono (k6.kt B5)
    dsimp only [gName]
    refine seq_cut (fun σ H' => ∃ (y : Int) (pf : Addr), σ = [some (.ref a), some (.ref b), some (.ref row), some (.ref p2), some v, some (.int x), some (.int y), some (.ref pf), x8, x9, x10] ∧ Keep b g H6 H' ∧ Bag H' b g ∧ y ∈ R ∧ H6 pf = none ∧ H' pf = some (.lst [])) (fun N hN => ?_) ?_
    · refine ⟨_, rfl, _, rfl, b, g, row, R.map V.int, rfl, B6, hR6, orow.2, (fun z => hRne (List.map_eq_nil_iff.mp z)), by rw [List.length_map]; omega, fun w H7 hw k7 B7 => ⟨(by show 0 ≤ sizeLine; decide), fun pf hpf => ⟨(by show 2 ≤ sizeLine; decide), fun Tt hTt => ?_⟩⟩⟩
      obtain ⟨y, hy, rfl⟩ := List.mem_map.mp hw
      have f1 := same_upd (.lst []) hpf
      have f2 := same_upd (.tup [V.int y, .ref pf]) hTt
      exact ⟨Tt, _, rfl, SqT.of upd_same, rfl, _, _, rfl, _, _, rfl, rfl, hN _ _ ⟨y, pf, rfl, k7.trans (.same (f1.trans f2)), B7.same (f1.trans f2), hy, B6.free k7 B7 hpf, f2 _ _ upd_same⟩⟩
    rintro σ H7 ⟨y, pf, rfl, k7, B7, hyR, hpf0, hpf⟩
    have opf := B6.off hpf0
    have k57 := k6.trans k7
    have hR7' := k57 _ _ orow.1 orow.2 hR5
    have hat7 := hat.mono (k57.kt B5)
    have npr : pf ≠ row := fun z => by rw [z, hR6] at hpf0; cases hpf0
    refine seq_cut (fun σ H' => σ = [some (.ref a), some (.ref b), some (.ref row), some (.ref p2), some v, some (.int x), some (.int y), some (.ref pf), x8, x9, x10] ∧ H7 = H' ∧ x ≠ y) (fun N hN => ?_) ?_
    · refine ⟨_, rfl, _, rfl, rfl, _, rfl, ?_⟩
      by_cases e : x = y
      · rw [decide_eq_true (by rw [e])]
        exact iteT ⟨_, _, _, _, _, _, rfl, k57, B7⟩
      · rw [decide_eq_false fun z => e (V.int.inj z)]
        exact iteF (hN _ _ ⟨rfl, rfl, e⟩)
    rintro σ _ ⟨rfl, rfl, ne⟩
    have hx : x ∈ t.held := (hin x).mpr hxR
    have hy : y ∈ t.held := (hin y).mpr hyR
    have hrl : (restOf R x y).length ≤ 7 := Nat.le_trans (List.length_filter_le _ _) hR7.2
    have hsz := lots_size (restOf R x y)
    have h128 : 2 ^ (restOf R x y).length ≤ 2 ^ 7 := Nat.pow_le_pow_right (by decide) hrl
    refine seq_cut (fun σ H' => ∃ (x8 x10 : Option V) (us : List V), σ = [some (.ref a), some (.ref b), some (.ref row), some (.ref p2), some v, some (.int x), some (.int y), some (.ref pf), x8, x9, x10] ∧ KeepF pf H7 H' ∧ H' pf = some (.lst us) ∧ Lts H' us ((lotsOf (restOf R x y)).filter (goesP t x y))) (fun N hN => ?_) ?_
    · refine ⟨_, rfl, row, rfl, ⟨_, SqL.of hR7'⟩, fun D hD => ?_⟩
      refine lc_list (K := K) (a := row) (xs := R.map V.int) (fun i H' => Same H7 H' ∧ H' D = some (.lst ((restOf (R.take i) x y).map V.int))) ⟨same_upd _ hD, upd_same⟩ ?_ ?_ ?_
      · rintro i H' _ ⟨e, _⟩
        exact SqL.of (e _ _ hR7')
      · rintro j w H8 hw ⟨e8, hacc⟩
        obtain ⟨z, hz, rfl⟩ := get_ints hw
        have hst : restOf (R.take (j + 1)) x y = restOf (R.take j) x y ++ (if z ∈ ([x, y] : List Int) then [] else [z]) := by
          unfold restOf
          rw [take_snoc hz, List.filter_append, List.filter_cons]
          by_cases c : z ∈ ([x, y] : List Int) <;> simp [c]
        have hal : (restOf (R.take j) x y).length ≤ 7 := by
          have h1 : (restOf (R.take j) x y).length ≤ (R.take j).length := List.length_filter_le _ _
          rw [List.length_take] at h1
          omega
        refine ⟨rfl, _, rfl, _, rfl, _, rfl, (by show 2 ≤ sizeLine; decide), fun q1 hq1 => ?_⟩
        have f1 := same_upd (.tup [V.int x, .int y]) hq1
        refine ⟨q1, (([x, y] : List Int).map V.int), rfl, .inr (SqT.of upd_same), rfl, flat_ints [x, y], ?_⟩
        rw [if_pos rfl, in_ints]
        by_cases c : z ∈ ([x, y] : List Int)
        · rw [decide_eq_true c]
          rw [if_pos c, List.append_nil] at hst
          exact ⟨_, rfl, iteF ⟨e8.trans f1, by rw [hst]; exact f1 _ _ hacc⟩⟩
        · rw [decide_eq_false c]
          rw [if_neg c] at hst
          refine ⟨_, rfl, iteT ⟨_, rfl, _, f1 _ _ hacc, ?_, same_upd2 _ (e8.trans f1) hD, ?_⟩⟩
          · rw [List.length_map]
            exact Nat.lt_of_le_of_lt (m := 1000) (by omega) (by decide)
          · rw [upd_same, hst, List.map_append]
            rfl
      · rintro H8 ⟨e8, hacc⟩
        rw [List.length_map, List.take_length] at hacc
        refine ⟨D, restOf R x y, rfl, hacc, by omega, fun pe ws H9 e9 hpe0 hpe hws => ?_⟩
        have e79 := e8.trans e9
        have hwl := hws.length
        refine ⟨pe, rfl, ⟨_, SqL.of hpe⟩, ?_⟩
        have npe : pe ≠ pf := fun z => by rw [z, e8 _ _ hpf] at hpe0; cases hpe0
        have hpf9 := e79 _ _ hpf
        have hat9 := hat7.same e79
        refine for_list (K := K) (a := pe) (xs := ws) (fun j σ H' => ∃ (x8 : Option V) (us : List V), σ = [some (.ref a), some (.ref b), some (.ref row), some (.ref p2), some v, some (.int x), some (.int y), some (.ref pf), x8, x9, x10] ∧ KeepF pf H9 H' ∧ H' pf = some (.lst us) ∧ Lts H' us (((lotsOf (restOf R x y)).take j).filter (goesP t x y))) ⟨x8, [], rfl, fun _ _ _ h => h, hpf9, by rw [List.take_zero]; exact .nil⟩ ?_ ?_ ?_
        · rintro j σ H' _ ⟨x8, us, rfl, kk, _⟩
          exact SqL.of (kk _ _ npe hpe)
        · rintro j w σ HA hw ⟨x8, us, rfl, kA, hpfA, husA⟩
          obtain ⟨q, L, hL, rfl, hqL⟩ := hws.get hw
          have ktA := kA.kt hpf9
          have hqA := ktA _ _ hqL
          have hatA := hat9.mono ktA
          have hLl : L.length ≤ 7 := Nat.le_trans (lots_sub (List.mem_of_getElem? hL)).length_le hrl
          have hst : ((lotsOf (restOf R x y)).take (j + 1)).filter (goesP t x y) = ((lotsOf (restOf R x y)).take j).filter (goesP t x y) ++ (if goesP t x y L = true then [L] else []) := by
            rw [take_snoc hL, List.filter_append, List.filter_cons]
            rfl
          have hul : us.length ≤ 200 := by
            have h1 := husA.length
            have h2 := List.length_filter_le (goesP t x y) ((lotsOf (restOf R x y)).take j)
            rw [List.length_take] at h2
            omega
          dsimp only [gName]
          refine ⟨_, rfl, _, rfl, _, rfl, (by show 1 ≤ sizeLine; decide), fun p3 hp3 => ?_⟩
          have f3 := same_upd (.tup [V.int x]) hp3
          refine Own.catA_go (f3 _ _ hqA) upd_same (by rw [List.length_map]; show L.length + 1 ≤ 100000; omega) fun p4 H4' e4 hp4 => ?_
          have hp4' : H4' p4 = some (.tup ((L ++ [x]).map V.int)) := by rw [hp4, List.map_append]; rfl
          have eA := f3.trans e4
          refine ⟨v, p4, t, L ++ [x], rfl, hatA.same eA, .inr (SqT.of hp4'), by omega, fun HB eB => ⟨_, rfl, ?_⟩⟩
          have eAB := eA.trans eB
          cases gx : t.go (L ++ [x]) with
          | false =>
            rw [show goesP t x y L = false from by unfold goesP; rw [gx]; rfl, if_neg Bool.false_ne_true, List.append_nil] at hst
            exact iteF (iteF ⟨_, us, rfl, kA.trans (.of eAB), eAB _ _ hpfA, by rw [hst]; exact husA.same eAB⟩)
          | true =>
            refine iteT ?_
            refine ⟨_, rfl, _, rfl, _, rfl, (by show 1 ≤ sizeLine; decide), fun p5 hp5 => ?_⟩
            have f5 := same_upd (.tup [V.int y]) hp5
            refine Own.catA_go ((eAB.trans f5) _ _ hqA) upd_same (by rw [List.length_map]; show L.length + 1 ≤ 100000; omega) fun p6 H6' e6 hp6 => ?_
            have hp6' : H6' p6 = some (.tup ((L ++ [y]).map V.int)) := by rw [hp6, List.map_append]; rfl
            have eC := eAB.trans (f5.trans e6)
            refine ⟨v, p6, t, L ++ [y], rfl, hatA.same eC, .inr (SqT.of hp6'), by omega, fun HD eD => ⟨_, rfl, ?_⟩⟩
            have eCD := eC.trans eD
            cases gy : t.go (L ++ [y]) with
            | true =>
              rw [show goesP t x y L = false from by unfold goesP; rw [gx, gy]; rfl, if_neg Bool.false_ne_true, List.append_nil] at hst
              exact iteF ⟨_, us, rfl, kA.trans (.of eCD), eCD _ _ hpfA, by rw [hst]; exact husA.same eCD⟩
            | false =>
              rw [show goesP t x y L = true from by unfold goesP; rw [gx, gy]; rfl, if_pos rfl] at hst
              have hpfD := eCD _ _ hpfA
              refine iteT ⟨_, rfl, .inl ⟨rfl, _, SqL.of hpfD⟩, _, rfl, pf, us, _, rfl, rfl, hpfD, Nat.lt_of_le_of_lt hul (by decide), _, us ++ [.ref q], rfl, (kA.trans (.of eCD)).put, upd_same, ?_⟩
              rw [hst]
              exact ((husA.same eCD).append (.cons (eCD _ _ hqA) .nil)).mono (kt_lst hpfD)
        · rintro σ HA ⟨x8, us, rfl, kA, hpfA, husA⟩
          rw [hwl, List.take_length] at husA
          exact hN _ _ ⟨x8, _, us, rfl, (KeepF.of e79).trans kA, hpfA, husA⟩
    rintro σ H8 ⟨x8, x10, us, rfl, k8, hpf8, hus⟩
    have opf5 := B5.off (B5.free k6 B6 hpf0)
    have hpf5 := B5.free k6 B6 hpf0
    have k58 : Keep b g H5 H8 := fun c o n1 n2 h => k8 c o (fun z => by rw [z, hpf5] at h; cases h) (k57 c o n1 n2 h)
    have B8 := B7.keepF opf.1 opf.2 k8
    have hat8 := hat.mono (k58.kt B5)
    generalize hFe : (lotsOf (restOf R x y)).filter (goesP t x y) = F at hus
    have hFl : F.length ≤ 128 := by
      rw [← hFe]
      exact Nat.le_trans (List.length_filter_le _ _) (by omega)
    have hul := hus.length
    have hgain : gainN x y t = F.length := by rw [← hFe]; exact gain_lots hpt hRn hxR hyR ne
    have hworse : F = [] ↔ (y = x ∨ Nw y x (tell t)) := by
      rw [← hFe, gain_worse hpt, nwb_tell hok hndt hy hx, nwb_iff]
      exact ⟨.inr, fun h => h.elim (fun z => absurd z.symm ne) id⟩
    have hFs : ∀ L ∈ F, L.length ≤ 7 ∧ ∀ z ∈ L, 0 ≤ z ∧ z ≤ 99 := fun L hL => by
      rw [← hFe] at hL
      have h1 := lots_sub (List.mem_filter.mp hL).1
      refine ⟨Nat.le_trans h1.length_le hrl, fun z hz => ?_⟩
      have := hmem z (rest_mem.mp (h1.subset hz)).1
      omega
    refine seq_cut (fun σ H' => ∃ tv : V, σ = [some (.ref a), some (.ref b), some (.ref row), some (.ref p2), some v, some (.int x), some (.int y), some (.ref pf), x8, some tv, x10] ∧ Same H8 H' ∧ ((F = [] ∧ tv = .non) ∨ (F ≠ [] ∧ ∃ (q : Addr) (L : List Int), tv = .ref q ∧ H' q = some (.tup (L.map V.int)) ∧ L ∈ F))) (fun N hN => ?_) ?_
    · refine ⟨_, rfl, _, rfl, _, rfl, fun _ => False, v, .int y, .int x, t, .int y, .int x, rfl, hat8, hok, hndt, by omega, by omega, .int y, .int x, fun y' x' ey ex _ _ hw H9 e9 => ?_, fun y' x' ey ex _ _ hw q L w1 w2 H9 e9 hq hs1 h1 h2 h3 => ?_, fun hno => absurd hy (hno y rfl), fun _ hno => absurd hx (hno x rfl)⟩
      · cases ey
        cases ex
        exact hN _ _ ⟨.non, rfl, e9, .inl ⟨hworse.mpr hw, rfl⟩⟩
      · cases ey
        cases ex
        refine hN _ _ ⟨.ref q, rfl, e9, .inr ⟨fun z => hw (hworse.mp z), q, L, rfl, hq, ?_⟩⟩
        rw [← hFe]
        exact show_in hok hndt hpt hsort ⟨hs1, w1, w2, h1, h2, h3⟩ hw
    rintro σ H9 ⟨tv, rfl, e9, htv⟩
    have hpf9 := e9 _ _ hpf8
    have hus9 := hus.same e9
    have hat9 := hat8.same e9
    refine seq_cut (fun σ H' => σ = [some (.ref a), some (.ref b), some (.ref row), some (.ref p2), some v, some (.int x), some (.int y), some (.ref pf), x8, some tv, x10] ∧ Same H9 H') (fun N hN => ?_) ?_
    · have shn : ShowsD (.int (F.length : Int)) := shows_nat (by omega)
      have shb := shows_bool (decide (F = []))
      refine if_cut (fun c H' => c = false ∧ Same H9 H') (fun Q' hQ => ?_) ?_ ?_
      · refine ⟨_, rfl, _, rfl, _, rfl, v, t, x, y, rfl, hat9, hok, hndt, by omega, by omega, hx, hy, fun HB eB => ?_⟩
        rw [if_neg ne, hgain]
        refine ⟨_, _, rfl, .int _, shn.able, shn.low, shn.short, ?_⟩
        refine ⟨_, rfl, pf, _, rfl, .inl (SqL.of (eB _ _ hpf9)), ?_⟩
        rw [hul]
        refine ⟨_, _, rfl, .int _, shn.able, shn.low, shn.short, rfl, _, rfl, ?_⟩
        rw [decide_eq_true rfl]
        refine iteF ?_
        refine ⟨_, rfl, _, rfl, _, rfl, fun _ => False, v, .int y, .int x, t, .int y, .int x, rfl, hat9.same eB, hok, hndt, by omega, by omega, .int y, .int x, fun y' x' ey ex _ _ bq HC eC hbq => ?_, fun hno => absurd hy (hno y rfl), fun _ hno => absurd hx (hno x rfl)⟩
        cases ey
        cases ex
        rw [← hworse] at hbq
        have hbq2 : bq = decide (F = []) := by rw [Bool.eq_iff_iff, hbq, decide_eq_true_iff]
        subst hbq2
        have eBC := eB.trans eC
        refine ⟨_, _, rfl, .bl _, shb.able, shb.low, shb.short, ?_⟩
        refine ⟨_, rfl, (by show 0 ≤ sizeLine; decide), fun z0 hz0 => ?_⟩
        have f1 := same_upd (.lst []) hz0
        refine ⟨_, _, .lst (SqL.of (f1 _ _ (eBC _ _ hpf9))) (lts_dp ((hus9.same eBC).same f1)), .lst (SqL.of upd_same) .nil, shaped_lots F, shaped_nil, ?_⟩
        rw [eqv_lots]
        refine ⟨_, _, rfl, .bl _, shb.able, shb.low, shb.short, rfl, _, rfl, hQ _ _ ⟨?_, eBC.trans f1⟩⟩
        rw [decide_eq_true rfl]
        rfl
      · rintro H' ⟨hc, _⟩
        cases hc
      · rintro H' ⟨_, e⟩
        exact hN _ _ ⟨rfl, e⟩
    rintro σ HA ⟨rfl, eA⟩
    have hpfA := eA _ _ hpf9
    have husA := hus9.same eA
    have fin : ∀ HB, Same HA HB → ∃ x5' x6' x7' x8' x9' x10', [some (.ref a), some (.ref b), some (.ref row), some (.ref p2), some v, some (.int x), some (.int y), some (.ref pf), x8, some tv, x10] = [some (.ref a), some (.ref b), some (.ref row), some (.ref p2), some v, x5', x6', x7', x8', x9', x10'] ∧ Keep b g H5 HB ∧ Bag HB b g := fun HB eB => ⟨_, _, _, _, _, _, rfl, k58.trans (.same (e9.trans (eA.trans eB))), B8.same (e9.trans (eA.trans eB))⟩
    refine if_cut (fun c H' => c = false ∧ Same HA H') (fun Q' hQ => ?_) ?_ ?_
    · refine ⟨_, rfl, (by show 0 ≤ sizeLine; decide), fun z0 hz0 => ?_⟩
      have f1 := same_upd (.lst []) hz0
      refine ⟨_, _, .lst (SqL.of (f1 _ _ hpfA)) (lts_dp (husA.same f1)), .lst (SqL.of upd_same) .nil, shaped_lots F, shaped_nil, _, rfl, ?_⟩
      rw [eqv_lots]
      generalize upd HA z0 (.lst []) = HB at f1 ⊢
      rcases htv with ⟨hF0, rfl⟩ | ⟨hF0, q, L, rfl, hq, hL⟩
      · rw [decide_eq_true hF0]
        refine iteT ⟨_, rfl, rfl, _, rfl, ?_⟩
        rw [decide_eq_true rfl]
        refine iteF ?_
        refine ⟨_, rfl, (by show 0 ≤ sizeLine; decide), fun z1 hz1 => ?_⟩
        have f2 := same_upd (.lst []) hz1
        have f12 := f1.trans f2
        refine ⟨_, _, .lst (SqL.of (f12 _ _ hpfA)) (lts_dp (husA.same f12)), .lst (SqL.of upd_same) .nil, shaped_lots F, shaped_nil, _, rfl, ?_⟩
        rw [eqv_lots, decide_eq_true hF0]
        exact iteF (hQ _ _ ⟨rfl, f12⟩)
      · rw [decide_eq_false hF0]
        refine iteF (iteF ?_)
        refine ⟨_, rfl, (by show 0 ≤ sizeLine; decide), fun z1 hz1 => ?_⟩
        have f2 := same_upd (.lst []) hz1
        have f12 := f1.trans f2
        refine ⟨_, _, .lst (SqL.of (f12 _ _ hpfA)) (lts_dp (husA.same f12)), .lst (SqL.of upd_same) .nil, shaped_lots F, shaped_nil, _, rfl, ?_⟩
        rw [eqv_lots, decide_eq_false hF0]
        refine iteT ?_
        generalize upd HB z1 (.lst []) = HC at f2 f12 ⊢
        have shL : ∀ M ∈ F, ShowsD (.tuple (M.map .int)) := fun M hM => shows_tup (hFs M hM).2 (by have := (hFs M hM).1; omega)
        have sh := shL L hL
        have hqC := (eA.trans f12) _ _ hq
        refine ⟨_, rfl, _, .tuple (L.map .int), rfl, .tup (SqT.of hqC) (atx_ints (X := fun _ => False) L).dp, sh.able, sh.low, sh.short, ?_⟩
        refine ⟨_, rfl, pf, rfl, ⟨_, SqL.of (f12 _ _ hpfA)⟩, fun D hD => ?_⟩
        have husC := husA.same f12
        have hpfC := f12 _ _ hpfA
        refine lc_list (K := K) (a := pf) (xs := us) (fun i H' => Same HC H' ∧ H' D = some (.lst ((F.take i).map fun M => V.str (PyData.tuple (M.map .int)).shown))) ⟨same_upd _ hD, upd_same⟩ ?_ ?_ ?_
        · rintro i H' _ ⟨e, _⟩
          exact SqL.of (e _ _ hpfC)
        · rintro j w HD hw ⟨e, hacc⟩
          obtain ⟨q2, M, hM, rfl, hq2⟩ := husC.get hw
          have shM := shL M (List.mem_of_getElem? hM)
          refine ⟨rfl, _, rfl, _, .tuple (M.map .int), rfl, .tup (SqT.of (e _ _ hq2)) (atx_ints (X := fun _ => False) M).dp, shM.able, shM.low, shM.short, _, hacc, ?_, same_upd2 _ e hD, ?_⟩
          · rw [List.length_map, List.length_take]
            exact Nat.lt_of_le_of_lt (m := 1000) (by omega) (by decide)
          · rw [upd_same, take_snoc hM, List.map_append]
            rfl
        · rintro HD ⟨e, hacc⟩
          rw [hul, List.take_length] at hacc
          refine ⟨D, _, rfl, .inl (SqL.of hacc), rfl, ?_, ?_⟩
          · rw [List.all_eq_true]
            intro u hu
            obtain ⟨M, _, rfl⟩ := List.mem_map.mp hu
            rfl
          have hin2 : inV (V.str (PyData.tuple (L.map .int)).shown) (F.map fun M => V.str (PyData.tuple (M.map .int)).shown) = true := by
            unfold inV
            rw [List.any_eq_true]
            exact ⟨_, List.mem_map.mpr ⟨L, hL, rfl⟩, by simp [eqV]⟩
          rw [if_pos rfl, hin2]
          exact ⟨_, rfl, hQ _ _ ⟨rfl, f12.trans e⟩⟩
    · rintro H' ⟨hc, _⟩
      cases hc
    · rintro H' ⟨_, e⟩
      exact fin _ e
  · rintro σ H6 ⟨x5, x6, x7, x8, x9, x10, rfl, k6, B6⟩
    exact k _

theorem exm_mk {K : PySem.W.Frag} {S D : Addr} (h1 : PySem.W.subIn K (.ref D) (.type "BaseException") = some true) (h2 : PySem.W.isClsIn K D = true) (h3 : PySem.W.typeIn K (.ref D) = some (.type "type")) (h4 : PySem.W.subIn K (.ref S) (.ref D) = some true) :
    PySem.W.exmOne K (.ref S) (.ref D) = some true := by
  have g1 : (PySem.W.subIn K (.ref D) (.type "BaseException") == some true) = true := by rw [h1]; rfl
  have g2 : ((PySem.W.clsIn K D).isSome && PySem.W.typeIn K (.ref D) == some (.type "type")) = true := by
    have h2' : (PySem.W.clsIn K D).isSome = true := h2
    rw [h2', h3]
    rfl
  unfold PySem.W.exmOne PySem.W.kitCls
  simp only [g1, g2, if_true]
  exact h4
end
def cd_mk {K : PySem.W.Frag} {h : Heap} {mg : Str → Option Value} (X : K.In h) (G : h.Ns mainGlobals mg)
  {a0 : Addr} {od0 an0 : Option Addr} {sl0 : Array (Option Value)} {oc0 kV0 dc0 pm0 cd0 ct0 : Value}
  {a1 : Addr} {od1 an1 : Option Addr} {sl1 : Array (Option Value)} {oc1 kV1 dc1 pm1 cd1 ct1 : Value}
  {a2 : Addr} {od2 an2 : Option Addr} {sl2 : Array (Option Value)} {oc2 kV2 dc2 pm2 cd2 ct2 : Value}
  {a3 : Addr} {od3 an3 : Option Addr} {sl3 : Array (Option Value)} {oc3 kV3 dc3 pm3 cd3 ct3 : Value}
  {a4 : Addr} {od4 an4 : Option Addr} {sl4 : Array (Option Value)} {oc4 kV4 dc4 pm4 cd4 ct4 : Value}
  {a5 : Addr} {od5 an5 : Option Addr} {sl5 : Array (Option Value)} {oc5 kV5 dc5 pm5 cd5 ct5 : Value}
  {a6 : Addr} {od6 an6 : Option Addr} {sl6 : Array (Option Value)} {oc6 kV6 dc6 pm6 cd6 ct6 : Value}
  {a7 : Addr} {od7 an7 : Option Addr} {sl7 : Array (Option Value)} {oc7 kV7 dc7 pm7 cd7 ct7 : Value}
  {a8 : Addr} {od8 an8 : Option Addr} {sl8 : Array (Option Value)} {oc8 kV8 dc8 pm8 cd8 ct8 : Value}
  {a9 : Addr} {od9 an9 : Option Addr} {sl9 : Array (Option Value)} {oc9 kV9 dc9 pm9 cd9 ct9 : Value}
  {a10 : Addr} {od10 an10 : Option Addr} {sl10 : Array (Option Value)} {oc10 kV10 dc10 pm10 cd10 ct10 : Value}
  {a11 : Addr} {od11 an11 : Option Addr} {sl11 : Array (Option Value)} {oc11 kV11 dc11 pm11 cd11 ct11 : Value}
  {a12 : Addr} {od12 an12 : Option Addr} {sl12 : Array (Option Value)} {oc12 kV12 dc12 pm12 cd12 ct12 : Value}
  {a13 : Addr} {od13 an13 : Option Addr} {sl13 : Array (Option Value)} {oc13 kV13 dc13 pm13 cd13 ct13 : Value}
  {a14 : Addr} {od14 an14 : Option Addr} {sl14 : Array (Option Value)} {oc14 kV14 dc14 pm14 cd14 ct14 : Value}
  {a15 : Addr} {od15 an15 : Option Addr} {sl15 : Array (Option Value)} {oc15 kV15 dc15 pm15 cd15 ct15 : Value}
  {a16 : Addr} {od16 an16 : Option Addr} {sl16 : Array (Option Value)} {oc16 kV16 dc16 pm16 cd16 ct16 : Value}
  {a17 : Addr} {od17 an17 : Option Addr} {sl17 : Array (Option Value)} {oc17 kV17 dc17 pm17 cd17 ct17 : Value}
  {a18 : Addr} {od18 an18 : Option Addr} {sl18 : Array (Option Value)} {oc18 kV18 dc18 pm18 cd18 ct18 : Value}
  {a19 : Addr} {od19 an19 : Option Addr} {sl19 : Array (Option Value)} {oc19 kV19 dc19 pm19 cd19 ct19 : Value}
  {a20 : Addr} {od20 an20 : Option Addr} {sl20 : Array (Option Value)} {oc20 kV20 dc20 pm20 cd20 ct20 : Value}
  {a21 : Addr} {od21 an21 : Option Addr} {sl21 : Array (Option Value)} {oc21 kV21 dc21 pm21 cd21 ct21 : Value}
  {a22 : Addr} {od22 an22 : Option Addr} {sl22 : Array (Option Value)} {oc22 kV22 dc22 pm22 cd22 ct22 : Value}
  {a23 : Addr} {od23 an23 : Option Addr} {sl23 : Array (Option Value)} {oc23 kV23 dc23 pm23 cd23 ct23 : Value}
  {a24 : Addr} {od24 an24 : Option Addr} {sl24 : Array (Option Value)} {oc24 kV24 dc24 pm24 cd24 ct24 : Value}
  {a25 : Addr} {od25 an25 : Option Addr} {sl25 : Array (Option Value)} {oc25 kV25 dc25 pm25 cd25 ct25 : Value}
  {a26 : Addr} {od26 an26 : Option Addr} {sl26 : Array (Option Value)} {oc26 kV26 dc26 pm26 cd26 ct26 : Value}
  {a27 : Addr} {od27 an27 : Option Addr} {sl27 : Array (Option Value)} {oc27 kV27 dc27 pm27 cd27 ct27 : Value}
  {a28 : Addr} {od28 an28 : Option Addr} {sl28 : Array (Option Value)} {oc28 kV28 dc28 pm28 cd28 ct28 : Value}
  {a29 : Addr} {od29 an29 : Option Addr} {sl29 : Array (Option Value)} {oc29 kV29 dc29 pm29 cd29 ct29 : Value}
  {c_TripError : Addr}
  {c_NoPart : Addr}
  {c_NoButton : Addr}
  {ai0 Ni0 : Addr} {odi0 ani0 ddi0 : Option Addr} {sli0 : Array (Option Value)} {oci0 kVi0 dci0 pmi0 cdi0 cti0 : Value} {nmi0 qi0 : Str} {bsi0 bmi0 subi0 : List Value} {sni0 : List Str} {abi0 : Bool} {coli0 : Option Bool} {k0i0 k1i0 k2i0 k3i0 k5i0 : Option Value}
  {ai1 Ni1 : Addr} {odi1 ani1 ddi1 : Option Addr} {sli1 : Array (Option Value)} {oci1 kVi1 dci1 pmi1 cdi1 cti1 : Value} {nmi1 qi1 : Str} {bsi1 bmi1 subi1 : List Value} {sni1 : List Str} {abi1 : Bool} {coli1 : Option Bool} {k0i1 k1i1 k2i1 k3i1 k5i1 : Option Value}
  (g0 : PySem.W.nsIn K mainGlobals "_wall" = some (some (.ref a0))) (l0 : K.lookup a0 = some ⟨oc0, od0, .func (PySem.W.fnOf "_wall" "_wall" (defArgs s__wall) (defBody s__wall) (defScope s__wall) .none kV0 dc0 pm0 an0 cd0 ct0), sl0⟩) (c0 : PySem.W.codeIn K cd0 "_wall" = true) (k0 : PySem.W.keepIn K (.ref a0) = true)
  (g1 : PySem.W.nsIn K mainGlobals "is_integer" = some (some (.ref a1))) (l1 : K.lookup a1 = some ⟨oc1, od1, .func (PySem.W.fnOf "is_integer" "is_integer" (defArgs s_is_integer) (defBody s_is_integer) (defScope s_is_integer) .none kV1 dc1 pm1 an1 cd1 ct1), sl1⟩) (c1 : PySem.W.codeIn K cd1 "is_integer" = true) (k1 : PySem.W.keepIn K (.ref a1) = true)
  (g2 : PySem.W.nsIn K mainGlobals "is_trip" = some (some (.ref a2))) (l2 : K.lookup a2 = some ⟨oc2, od2, .func (PySem.W.fnOf "is_trip" "is_trip" (defArgs s_is_trip) (defBody s_is_trip) (defScope s_is_trip) .none kV2 dc2 pm2 an2 cd2 ct2), sl2⟩) (c2 : PySem.W.codeIn K cd2 "is_trip" = true) (k2 : PySem.W.keepIn K (.ref a2) = true)
  (g3 : PySem.W.nsIn K mainGlobals "least_button" = some (some (.ref a3))) (l3 : K.lookup a3 = some ⟨oc3, od3, .func (PySem.W.fnOf "least_button" "least_button" (defArgs s_least_button) (defBody s_least_button) (defScope s_least_button) .none kV3 dc3 pm3 an3 cd3 ct3), sl3⟩) (c3 : PySem.W.codeIn K cd3 "least_button" = true) (k3 : PySem.W.keepIn K (.ref a3) = true)
  (g4 : PySem.W.nsIn K mainGlobals "without_button" = some (some (.ref a4))) (l4 : K.lookup a4 = some ⟨oc4, od4, .func (PySem.W.fnOf "without_button" "without_button" (defArgs s_without_button) (defBody s_without_button) (defScope s_without_button) .none kV4 dc4 pm4 an4 cd4 ct4), sl4⟩) (c4 : PySem.W.codeIn K cd4 "without_button" = true) (k4 : PySem.W.keepIn K (.ref a4) = true)
  (g5 : PySem.W.nsIn K mainGlobals "buttons_of" = some (some (.ref a5))) (l5 : K.lookup a5 = some ⟨oc5, od5, .func (PySem.W.fnOf "buttons_of" "buttons_of" (defArgs s_buttons_of) (defBody s_buttons_of) (defScope s_buttons_of) .none kV5 dc5 pm5 an5 cd5 ct5), sl5⟩) (c5 : PySem.W.codeIn K cd5 "buttons_of" = true) (k5 : PySem.W.keepIn K (.ref a5) = true)
  (g6 : PySem.W.nsIn K mainGlobals "part_at" = some (some (.ref a6))) (l6 : K.lookup a6 = some ⟨oc6, od6, .func (PySem.W.fnOf "part_at" "part_at" (defArgs s_part_at) (defBody s_part_at) (defScope s_part_at) .none kV6 dc6 pm6 an6 cd6 ct6), sl6⟩) (c6 : PySem.W.codeIn K cd6 "part_at" = true) (k6 : PySem.W.keepIn K (.ref a6) = true)
  (g7 : PySem.W.nsIn K mainGlobals "way_to" = some (some (.ref a7))) (l7 : K.lookup a7 = some ⟨oc7, od7, .func (PySem.W.fnOf "way_to" "way_to" (defArgs s_way_to) (defBody s_way_to) (defScope s_way_to) .none kV7 dc7 pm7 an7 cd7 ct7), sl7⟩) (c7 : PySem.W.codeIn K cd7 "way_to" = true) (k7 : PySem.W.keepIn K (.ref a7) = true)
  (g8 : PySem.W.nsIn K mainGlobals "_way_from" = some (some (.ref a8))) (l8 : K.lookup a8 = some ⟨oc8, od8, .func (PySem.W.fnOf "_way_from" "_way_from" (defArgs s__way_from) (defBody s__way_from) (defScope s__way_from) .none kV8 dc8 pm8 an8 cd8 ct8), sl8⟩) (c8 : PySem.W.codeIn K cd8 "_way_from" = true) (k8 : PySem.W.keepIn K (.ref a8) = true)
  (g9 : PySem.W.nsIn K mainGlobals "goes" = some (some (.ref a9))) (l9 : K.lookup a9 = some ⟨oc9, od9, .func (PySem.W.fnOf "goes" "goes" (defArgs s_goes) (defBody s_goes) (defScope s_goes) .none kV9 dc9 pm9 an9 cd9 ct9), sl9⟩) (c9 : PySem.W.codeIn K cd9 "goes" = true) (k9 : PySem.W.keepIn K (.ref a9) = true)
  (g10 : PySem.W.nsIn K mainGlobals "told" = some (some (.ref a10))) (l10 : K.lookup a10 = some ⟨oc10, od10, .func (PySem.W.fnOf "told" "told" (defArgs s_told) (defBody s_told) (defScope s_told) .none kV10 dc10 pm10 an10 cd10 ct10), sl10⟩) (c10 : PySem.W.codeIn K cd10 "told" = true) (k10 : PySem.W.keepIn K (.ref a10) = true)
  (g11 : PySem.W.nsIn K mainGlobals "_trip_word" = some (some (.ref a11))) (l11 : K.lookup a11 = some ⟨oc11, od11, .func (PySem.W.fnOf "_trip_word" "_trip_word" (defArgs s__trip_word) (defBody s__trip_word) (defScope s__trip_word) .none kV11 dc11 pm11 an11 cd11 ct11), sl11⟩) (c11 : PySem.W.codeIn K cd11 "_trip_word" = true) (k11 : PySem.W.keepIn K (.ref a11) = true)
  (g12 : PySem.W.nsIn K mainGlobals "no_worse" = some (some (.ref a12))) (l12 : K.lookup a12 = some ⟨oc12, od12, .func (PySem.W.fnOf "no_worse" "no_worse" (defArgs s_no_worse) (defBody s_no_worse) (defScope s_no_worse) .none kV12 dc12 pm12 an12 cd12 ct12), sl12⟩) (c12 : PySem.W.codeIn K cd12 "no_worse" = true) (k12 : PySem.W.keepIn K (.ref a12) = true)
  (g13 : PySem.W.nsIn K mainGlobals "worse_lot" = some (some (.ref a13))) (l13 : K.lookup a13 = some ⟨oc13, od13, .func (PySem.W.fnOf "worse_lot" "worse_lot" (defArgs s_worse_lot) (defBody s_worse_lot) (defScope s_worse_lot) .none kV13 dc13 pm13 an13 cd13 ct13), sl13⟩) (c13 : PySem.W.codeIn K cd13 "worse_lot" = true) (k13 : PySem.W.keepIn K (.ref a13) = true)
  (g14 : PySem.W.nsIn K mainGlobals "_places_alike" = some (some (.ref a14))) (l14 : K.lookup a14 = some ⟨oc14, od14, .func (PySem.W.fnOf "_places_alike" "_places_alike" (defArgs s__places_alike) (defBody s__places_alike) (defScope s__places_alike) .none kV14 dc14 pm14 an14 cd14 ct14), sl14⟩) (c14 : PySem.W.codeIn K cd14 "_places_alike" = true) (k14 : PySem.W.keepIn K (.ref a14) = true)
  (g15 : PySem.W.nsIn K mainGlobals "_one_short" = some (some (.ref a15))) (l15 : K.lookup a15 = some ⟨oc15, od15, .func (PySem.W.fnOf "_one_short" "_one_short" (defArgs s__one_short) (defBody s__one_short) (defScope s__one_short) .none kV15 dc15 pm15 an15 cd15 ct15), sl15⟩) (c15 : PySem.W.codeIn K cd15 "_one_short" = true) (k15 : PySem.W.keepIn K (.ref a15) = true)
  (g16 : PySem.W.nsIn K mainGlobals "_besides" = some (some (.ref a16))) (l16 : K.lookup a16 = some ⟨oc16, od16, .func (PySem.W.fnOf "_besides" "_besides" (defArgs s__besides) (defBody s__besides) (defScope s__besides) .none kV16 dc16 pm16 an16 cd16 ct16), sl16⟩) (c16 : PySem.W.codeIn K cd16 "_besides" = true) (k16 : PySem.W.keepIn K (.ref a16) = true)
  (g17 : PySem.W.nsIn K mainGlobals "gain" = some (some (.ref a17))) (l17 : K.lookup a17 = some ⟨oc17, od17, .func (PySem.W.fnOf "gain" "gain" (defArgs s_gain) (defBody s_gain) (defScope s_gain) .none kV17 dc17 pm17 an17 cd17 ct17), sl17⟩) (c17 : PySem.W.codeIn K cd17 "gain" = true) (k17 : PySem.W.keepIn K (.ref a17) = true)
  (g18 : PySem.W.nsIn K mainGlobals "_both_counts" = some (some (.ref a18))) (l18 : K.lookup a18 = some ⟨oc18, od18, .func (PySem.W.fnOf "_both_counts" "_both_counts" (defArgs s__both_counts) (defBody s__both_counts) (defScope s__both_counts) .none kV18 dc18 pm18 an18 cd18 ct18), sl18⟩) (c18 : PySem.W.codeIn K cd18 "_both_counts" = true) (k18 : PySem.W.keepIn K (.ref a18) = true)
  (g19 : PySem.W.nsIn K mainGlobals "_put_together" = some (some (.ref a19))) (l19 : K.lookup a19 = some ⟨oc19, od19, .func (PySem.W.fnOf "_put_together" "_put_together" (defArgs s__put_together) (defBody s__put_together) (defScope s__put_together) .none kV19 dc19 pm19 an19 cd19 ct19), sl19⟩) (c19 : PySem.W.codeIn K cd19 "_put_together" = true) (k19 : PySem.W.keepIn K (.ref a19) = true)
  (g20 : PySem.W.nsIn K mainGlobals "_law_bag" = some (some (.ref a20))) (l20 : K.lookup a20 = some ⟨oc20, od20, .func (PySem.W.fnOf "_law_bag" "_law_bag" (defArgs s__law_bag) (defBody s__law_bag) (defScope s__law_bag) .none kV20 dc20 pm20 an20 cd20 ct20), sl20⟩) (c20 : PySem.W.codeIn K cd20 "_law_bag" = true) (k20 : PySem.W.keepIn K (.ref a20) = true)
  (g21 : PySem.W.nsIn K mainGlobals "_law_draw" = some (some (.ref a21))) (l21 : K.lookup a21 = some ⟨oc21, od21, .func (PySem.W.fnOf "_law_draw" "_law_draw" (defArgs s__law_draw) (defBody s__law_draw) (defScope s__law_draw) .none kV21 dc21 pm21 an21 cd21 ct21), sl21⟩) (c21 : PySem.W.codeIn K cd21 "_law_draw" = true) (k21 : PySem.W.keepIn K (.ref a21) = true)
  (g22 : PySem.W.nsIn K mainGlobals "_law_pick" = some (some (.ref a22))) (l22 : K.lookup a22 = some ⟨oc22, od22, .func (PySem.W.fnOf "_law_pick" "_law_pick" (defArgs s__law_pick) (defBody s__law_pick) (defScope s__law_pick) .none kV22 dc22 pm22 an22 cd22 ct22), sl22⟩) (c22 : PySem.W.codeIn K cd22 "_law_pick" = true) (k22 : PySem.W.keepIn K (.ref a22) = true)
  (g23 : PySem.W.nsIn K mainGlobals "_law_mixed" = some (some (.ref a23))) (l23 : K.lookup a23 = some ⟨oc23, od23, .func (PySem.W.fnOf "_law_mixed" "_law_mixed" (defArgs s__law_mixed) (defBody s__law_mixed) (defScope s__law_mixed) .none kV23 dc23 pm23 an23 cd23 ct23), sl23⟩) (c23 : PySem.W.codeIn K cd23 "_law_mixed" = true) (k23 : PySem.W.keepIn K (.ref a23) = true)
  (g24 : PySem.W.nsIn K mainGlobals "_law_buttons" = some (some (.ref a24))) (l24 : K.lookup a24 = some ⟨oc24, od24, .func (PySem.W.fnOf "_law_buttons" "_law_buttons" (defArgs s__law_buttons) (defBody s__law_buttons) (defScope s__law_buttons) .none kV24 dc24 pm24 an24 cd24 ct24), sl24⟩) (c24 : PySem.W.codeIn K cd24 "_law_buttons" = true) (k24 : PySem.W.keepIn K (.ref a24) = true)
  (g25 : PySem.W.nsIn K mainGlobals "_law_tree" = some (some (.ref a25))) (l25 : K.lookup a25 = some ⟨oc25, od25, .func (PySem.W.fnOf "_law_tree" "_law_tree" (defArgs s__law_tree) (defBody s__law_tree) (defScope s__law_tree) .none kV25 dc25 pm25 an25 cd25 ct25), sl25⟩) (c25 : PySem.W.codeIn K cd25 "_law_tree" = true) (k25 : PySem.W.keepIn K (.ref a25) = true)
  (g26 : PySem.W.nsIn K mainGlobals "_law_every" = some (some (.ref a26))) (l26 : K.lookup a26 = some ⟨oc26, od26, .func (PySem.W.fnOf "_law_every" "_law_every" (defArgs s__law_every) (defBody s__law_every) (defScope s__law_every) .none kV26 dc26 pm26 an26 cd26 ct26), sl26⟩) (c26 : PySem.W.codeIn K cd26 "_law_every" = true) (k26 : PySem.W.keepIn K (.ref a26) = true)
  (g27 : PySem.W.nsIn K mainGlobals "_law_goes" = some (some (.ref a27))) (l27 : K.lookup a27 = some ⟨oc27, od27, .func (PySem.W.fnOf "_law_goes" "_law_goes" (defArgs s__law_goes) (defBody s__law_goes) (defScope s__law_goes) .none kV27 dc27 pm27 an27 cd27 ct27), sl27⟩) (c27 : PySem.W.codeIn K cd27 "_law_goes" = true) (k27 : PySem.W.keepIn K (.ref a27) = true)
  (g28 : PySem.W.nsIn K mainGlobals "_law_grown" = some (some (.ref a28))) (l28 : K.lookup a28 = some ⟨oc28, od28, .func (PySem.W.fnOf "_law_grown" "_law_grown" (defArgs s__law_grown) (defBody s__law_grown) (defScope s__law_grown) .none kV28 dc28 pm28 an28 cd28 ct28), sl28⟩) (c28 : PySem.W.codeIn K cd28 "_law_grown" = true) (k28 : PySem.W.keepIn K (.ref a28) = true)
  (g29 : PySem.W.nsIn K mainGlobals "law" = some (some (.ref a29))) (l29 : K.lookup a29 = some ⟨oc29, od29, .func (PySem.W.fnOf "law" "law" (defArgs s_law) (defBody s_law) (defScope s_law) .none kV29 dc29 pm29 an29 cd29 ct29), sl29⟩) (c29 : PySem.W.codeIn K cd29 "law" = true) (k29 : PySem.W.keepIn K (.ref a29) = true)
  (z_abs : PySem.W.nsIn K mainGlobals "abs" = some none)
  (z_bool : PySem.W.nsIn K mainGlobals "bool" = some none)
  (z_enumerate : PySem.W.nsIn K mainGlobals "enumerate" = some none)
  (z_int : PySem.W.nsIn K mainGlobals "int" = some none)
  (z_isinstance : PySem.W.nsIn K mainGlobals "isinstance" = some none)
  (z_len : PySem.W.nsIn K mainGlobals "len" = some none)
  (z_list : PySem.W.nsIn K mainGlobals "list" = some none)
  (z_min : PySem.W.nsIn K mainGlobals "min" = some none)
  (z_range : PySem.W.nsIn K mainGlobals "range" = some none)
  (z_repr : PySem.W.nsIn K mainGlobals "repr" = some none)
  (z_sorted : PySem.W.nsIn K mainGlobals "sorted" = some none)
  (z_tuple : PySem.W.nsIn K mainGlobals "tuple" = some none)
  (gx_TripError : PySem.W.nsIn K mainGlobals "TripError" = some (some (.ref c_TripError))) (kx_TripError : PySem.W.keepIn K (.ref c_TripError) = true)
  (xb_TripError : PySem.W.subIn K (.ref c_TripError) (.type "BaseException") = some true) (xt_TripError : PySem.W.typeIn K (.ref c_TripError) = some (.type "type")) (xi_TripError : PySem.W.isClsIn K c_TripError = true)
  (gx_NoPart : PySem.W.nsIn K mainGlobals "NoPart" = some (some (.ref c_NoPart))) (kx_NoPart : PySem.W.keepIn K (.ref c_NoPart) = true)
  (xb_NoPart : PySem.W.subIn K (.ref c_NoPart) (.type "BaseException") = some true) (xt_NoPart : PySem.W.typeIn K (.ref c_NoPart) = some (.type "type")) (xi_NoPart : PySem.W.isClsIn K c_NoPart = true)
  (gx_NoButton : PySem.W.nsIn K mainGlobals "NoButton" = some (some (.ref c_NoButton))) (kx_NoButton : PySem.W.keepIn K (.ref c_NoButton) = true)
  (xb_NoButton : PySem.W.subIn K (.ref c_NoButton) (.type "BaseException") = some true) (xt_NoButton : PySem.W.typeIn K (.ref c_NoButton) = some (.type "type")) (xi_NoButton : PySem.W.isClsIn K c_NoButton = true)
  (gi0 : PySem.W.findIn K (.ref c_NoPart) "__init__" = some (some (.ref ai0))) (li0 : K.lookup ai0 = some ⟨oci0, odi0, .func (PySem.W.fnOf "__init__" "NoPart.__init__" (defArgs s_NoPart__init__) (defBody s_NoPart__init__) (defScope s_NoPart__init__) .none kVi0 dci0 pmi0 ani0 cdi0 cti0), sli0⟩) (ci0 : PySem.W.codeIn K cdi0 "NoPart.__init__" = true) (ki0 : PySem.W.keepIn K (.ref ai0) = true)
  (lx0 : K.lookup c_NoPart = some (excClassObj nmi0 qi0 c_NoPart Ni0 bsi0 bmi0 true sni0 subi0 abi0 coli0 ddi0 k0i0 k1i0 k2i0 k3i0 k5i0 "ValueError.__new__")) (rx0 : PySem.HandSPX.refsVE bmi0 = true)
  (sa0 : PySem.W.findIn K (.ref c_NoPart) "__setattr__" = some (some (.builtin "object.__setattr__"))) (ty0 : PySem.W.typeIn K (.ref ai0) = some (.type "function")) (no0 : PySem.W.findIn K (.ref c_NoPart) "given" = some none)
  (gi1 : PySem.W.findIn K (.ref c_NoButton) "__init__" = some (some (.ref ai1))) (li1 : K.lookup ai1 = some ⟨oci1, odi1, .func (PySem.W.fnOf "__init__" "NoButton.__init__" (defArgs s_NoButton__init__) (defBody s_NoButton__init__) (defScope s_NoButton__init__) .none kVi1 dci1 pmi1 ani1 cdi1 cti1), sli1⟩) (ci1 : PySem.W.codeIn K cdi1 "NoButton.__init__" = true) (ki1 : PySem.W.keepIn K (.ref ai1) = true)
  (lx1 : K.lookup c_NoButton = some (excClassObj nmi1 qi1 c_NoButton Ni1 bsi1 bmi1 true sni1 subi1 abi1 coli1 ddi1 k0i1 k1i1 k2i1 k3i1 k5i1 "ValueError.__new__")) (rx1 : PySem.HandSPX.refsVE bmi1 = true)
  (sa1 : PySem.W.findIn K (.ref c_NoButton) "__setattr__" = some (some (.builtin "object.__setattr__"))) (ty1 : PySem.W.typeIn K (.ref ai1) = some (.type "function")) (no1 : PySem.W.findIn K (.ref c_NoButton) "given" = some none)
  (rd_TripError : PySem.W.readsIn K c_TripError (.type "type") = true) (ga_TripError : PySem.W.specialIn K (.ref c_TripError) "__getattribute__" = some (some (.builtin "type.__getattribute__"))) (vi_TripError : PySem.W.findCls K (.ref c_TripError) (.type "type") "__init__" = some (.val (.builtin "ValueError.__init__")))
  (s_NoButton_TripError : PySem.W.subIn K (.ref c_NoButton) (.ref c_TripError) = some true)
  (s_NoButton_NoButton : PySem.W.subIn K (.ref c_NoButton) (.ref c_NoButton) = some true)
  (xg_hn : PySem.W.specialIn K (.builtin "object.__class__") "__get__" = some (some (.builtin "getset_descriptor.__get__"))) (xg_ht : PySem.W.takesIn K (.builtin "object.__class__") = some true)
  (xc_NoPart_hg : PySem.W.findIn K (.ref c_NoPart) "__getattribute__" = some (some (.builtin "BaseException.__getattribute__"))) (xc_NoPart_hk : PySem.W.findIn K (.ref c_NoPart) "__getattr__" = some none) (xc_NoPart_hd : PySem.W.hasDictIn K c_NoPart = true) (xc_NoPart_ha : PySem.W.findIn K (.ref c_NoPart) "__class__" = some (some (.builtin "object.__class__"))) (xc_NoPart_hm : PySem.W.mroIn K c_NoPart (.type "object") = some true)
  (xc_NoButton_hg : PySem.W.findIn K (.ref c_NoButton) "__getattribute__" = some (some (.builtin "BaseException.__getattribute__"))) (xc_NoButton_hk : PySem.W.findIn K (.ref c_NoButton) "__getattr__" = some none) (xc_NoButton_hd : PySem.W.hasDictIn K c_NoButton = true) (xc_NoButton_ha : PySem.W.findIn K (.ref c_NoButton) "__class__" = some (some (.builtin "object.__class__"))) (xc_NoButton_hm : PySem.W.mroIn K c_NoButton (.type "object") = some true) : Cd K mg :=
  {
    a__wall := a0, d__wall := _, F__wall := fun_mk (st := s__wall) l0 c0 k0, m__wall := PySem.W.mg_of X G g0,
    b__wall := (fun_mk (st := s__wall) l0 c0 k0).binds (ps := p__wall) fun _ _ _ _ _ _ us hl => match us, hl with | [_], _ => rfl,
    a_is_integer := a1, d_is_integer := _, F_is_integer := fun_mk (st := s_is_integer) l1 c1 k1, m_is_integer := PySem.W.mg_of X G g1,
    b_is_integer := (fun_mk (st := s_is_integer) l1 c1 k1).binds (ps := p_is_integer) fun _ _ _ _ _ _ us hl => match us, hl with | [_], _ => rfl,
    a_is_trip := a2, d_is_trip := _, F_is_trip := fun_mk (st := s_is_trip) l2 c2 k2, m_is_trip := PySem.W.mg_of X G g2,
    b_is_trip := (fun_mk (st := s_is_trip) l2 c2 k2).binds (ps := p_is_trip) fun _ _ _ _ _ _ us hl => match us, hl with | [_], _ => rfl,
    a_least_button := a3, d_least_button := _, F_least_button := fun_mk (st := s_least_button) l3 c3 k3, m_least_button := PySem.W.mg_of X G g3,
    b_least_button := (fun_mk (st := s_least_button) l3 c3 k3).binds (ps := p_least_button) fun _ _ _ _ _ _ us hl => match us, hl with | [_], _ => rfl,
    a_without_button := a4, d_without_button := _, F_without_button := fun_mk (st := s_without_button) l4 c4 k4, m_without_button := PySem.W.mg_of X G g4,
    b_without_button := (fun_mk (st := s_without_button) l4 c4 k4).binds (ps := p_without_button) fun _ _ _ _ _ _ us hl => match us, hl with | [_, _], _ => rfl,
    a_buttons_of := a5, d_buttons_of := _, F_buttons_of := fun_mk (st := s_buttons_of) l5 c5 k5, m_buttons_of := PySem.W.mg_of X G g5,
    b_buttons_of := (fun_mk (st := s_buttons_of) l5 c5 k5).binds (ps := p_buttons_of) fun _ _ _ _ _ _ us hl => match us, hl with | [_], _ => rfl,
    a_part_at := a6, d_part_at := _, F_part_at := fun_mk (st := s_part_at) l6 c6 k6, m_part_at := PySem.W.mg_of X G g6,
    b_part_at := (fun_mk (st := s_part_at) l6 c6 k6).binds (ps := p_part_at) fun _ _ _ _ _ _ us hl => match us, hl with | [_, _], _ => rfl,
    a_way_to := a7, d_way_to := _, F_way_to := fun_mk (st := s_way_to) l7 c7 k7, m_way_to := PySem.W.mg_of X G g7,
    b_way_to := (fun_mk (st := s_way_to) l7 c7 k7).binds (ps := p_way_to) fun _ _ _ _ _ _ us hl => match us, hl with | [_, _], _ => rfl,
    a__way_from := a8, d__way_from := _, F__way_from := fun_mk (st := s__way_from) l8 c8 k8, m__way_from := PySem.W.mg_of X G g8,
    b__way_from := (fun_mk (st := s__way_from) l8 c8 k8).binds (ps := p__way_from) fun _ _ _ _ _ _ us hl => match us, hl with | [_, _], _ => rfl,
    a_goes := a9, d_goes := _, F_goes := fun_mk (st := s_goes) l9 c9 k9, m_goes := PySem.W.mg_of X G g9,
    b_goes := (fun_mk (st := s_goes) l9 c9 k9).binds (ps := p_goes) fun _ _ _ _ _ _ us hl => match us, hl with | [_, _], _ => rfl,
    a_told := a10, d_told := _, F_told := fun_mk (st := s_told) l10 c10 k10, m_told := PySem.W.mg_of X G g10,
    b_told := (fun_mk (st := s_told) l10 c10 k10).binds (ps := p_told) fun _ _ _ _ _ _ us hl => match us, hl with | [_], _ => rfl,
    a__trip_word := a11, d__trip_word := _, F__trip_word := fun_mk (st := s__trip_word) l11 c11 k11, m__trip_word := PySem.W.mg_of X G g11,
    b__trip_word := (fun_mk (st := s__trip_word) l11 c11 k11).binds (ps := p__trip_word) fun _ _ _ _ _ _ us hl => match us, hl with | [_, _], _ => rfl,
    a_no_worse := a12, d_no_worse := _, F_no_worse := fun_mk (st := s_no_worse) l12 c12 k12, m_no_worse := PySem.W.mg_of X G g12,
    b_no_worse := (fun_mk (st := s_no_worse) l12 c12 k12).binds (ps := p_no_worse) fun _ _ _ _ _ _ us hl => match us, hl with | [_, _, _], _ => rfl,
    a_worse_lot := a13, d_worse_lot := _, F_worse_lot := fun_mk (st := s_worse_lot) l13 c13 k13, m_worse_lot := PySem.W.mg_of X G g13,
    b_worse_lot := (fun_mk (st := s_worse_lot) l13 c13 k13).binds (ps := p_worse_lot) fun _ _ _ _ _ _ us hl => match us, hl with | [_, _, _], _ => rfl,
    a__places_alike := a14, d__places_alike := _, F__places_alike := fun_mk (st := s__places_alike) l14 c14 k14, m__places_alike := PySem.W.mg_of X G g14,
    b__places_alike := (fun_mk (st := s__places_alike) l14 c14 k14).binds (ps := p__places_alike) fun _ _ _ _ _ _ us hl => match us, hl with | [_, _], _ => rfl,
    a__one_short := a15, d__one_short := _, F__one_short := fun_mk (st := s__one_short) l15 c15 k15, m__one_short := PySem.W.mg_of X G g15,
    b__one_short := (fun_mk (st := s__one_short) l15 c15 k15).binds (ps := p__one_short) fun _ _ _ _ _ _ us hl => match us, hl with | [_, _], _ => rfl,
    a__besides := a16, d__besides := _, F__besides := fun_mk (st := s__besides) l16 c16 k16, m__besides := PySem.W.mg_of X G g16,
    b__besides := (fun_mk (st := s__besides) l16 c16 k16).binds (ps := p__besides) fun _ _ _ _ _ _ us hl => match us, hl with | [_, _], _ => rfl,
    a_gain := a17, d_gain := _, F_gain := fun_mk (st := s_gain) l17 c17 k17, m_gain := PySem.W.mg_of X G g17,
    b_gain := (fun_mk (st := s_gain) l17 c17 k17).binds (ps := p_gain) fun _ _ _ _ _ _ us hl => match us, hl with | [_, _, _], _ => rfl,
    a__both_counts := a18, d__both_counts := _, F__both_counts := fun_mk (st := s__both_counts) l18 c18 k18, m__both_counts := PySem.W.mg_of X G g18,
    b__both_counts := (fun_mk (st := s__both_counts) l18 c18 k18).binds (ps := p__both_counts) fun _ _ _ _ _ _ us hl => match us, hl with | [_, _, _], _ => rfl,
    a__put_together := a19, d__put_together := _, F__put_together := fun_mk (st := s__put_together) l19 c19 k19, m__put_together := PySem.W.mg_of X G g19,
    b__put_together := (fun_mk (st := s__put_together) l19 c19 k19).binds (ps := p__put_together) fun _ _ _ _ _ _ us hl => match us, hl with | [_, _], _ => rfl,
    a__law_bag := a20, d__law_bag := _, F__law_bag := fun_mk (st := s__law_bag) l20 c20 k20, m__law_bag := PySem.W.mg_of X G g20,
    b__law_bag := (fun_mk (st := s__law_bag) l20 c20 k20).binds (ps := p__law_bag) fun _ _ _ _ _ _ us hl => match us, hl with | [_], _ => rfl,
    a__law_draw := a21, d__law_draw := _, F__law_draw := fun_mk (st := s__law_draw) l21 c21 k21, m__law_draw := PySem.W.mg_of X G g21,
    b__law_draw := (fun_mk (st := s__law_draw) l21 c21 k21).binds (ps := p__law_draw) fun _ _ _ _ _ _ us hl => match us, hl with | [_, _], _ => rfl,
    a__law_pick := a22, d__law_pick := _, F__law_pick := fun_mk (st := s__law_pick) l22 c22 k22, m__law_pick := PySem.W.mg_of X G g22,
    b__law_pick := (fun_mk (st := s__law_pick) l22 c22 k22).binds (ps := p__law_pick) fun _ _ _ _ _ _ us hl => match us, hl with | [_, _], _ => rfl,
    a__law_mixed := a23, d__law_mixed := _, F__law_mixed := fun_mk (st := s__law_mixed) l23 c23 k23, m__law_mixed := PySem.W.mg_of X G g23,
    b__law_mixed := (fun_mk (st := s__law_mixed) l23 c23 k23).binds (ps := p__law_mixed) fun _ _ _ _ _ _ us hl => match us, hl with | [_, _], _ => rfl,
    a__law_buttons := a24, d__law_buttons := _, F__law_buttons := fun_mk (st := s__law_buttons) l24 c24 k24, m__law_buttons := PySem.W.mg_of X G g24,
    b__law_buttons := (fun_mk (st := s__law_buttons) l24 c24 k24).binds (ps := p__law_buttons) fun _ _ _ _ _ _ us hl => match us, hl with | [_, _], _ => rfl,
    a__law_tree := a25, d__law_tree := _, F__law_tree := fun_mk (st := s__law_tree) l25 c25 k25, m__law_tree := PySem.W.mg_of X G g25,
    b__law_tree := (fun_mk (st := s__law_tree) l25 c25 k25).binds (ps := p__law_tree) fun _ _ _ _ _ _ us hl => match us, hl with | [_, _, _], _ => rfl,
    a__law_every := a26, d__law_every := _, F__law_every := fun_mk (st := s__law_every) l26 c26 k26, m__law_every := PySem.W.mg_of X G g26,
    b__law_every := (fun_mk (st := s__law_every) l26 c26 k26).binds (ps := p__law_every) fun _ _ _ _ _ _ us hl => match us, hl with | [_], _ => rfl,
    a__law_goes := a27, d__law_goes := _, F__law_goes := fun_mk (st := s__law_goes) l27 c27 k27, m__law_goes := PySem.W.mg_of X G g27,
    b__law_goes := (fun_mk (st := s__law_goes) l27 c27 k27).binds (ps := p__law_goes) fun _ _ _ _ _ _ us hl => match us, hl with | [_, _], _ => rfl,
    a__law_grown := a28, d__law_grown := _, F__law_grown := fun_mk (st := s__law_grown) l28 c28 k28, m__law_grown := PySem.W.mg_of X G g28,
    b__law_grown := (fun_mk (st := s__law_grown) l28 c28 k28).binds (ps := p__law_grown) fun _ _ _ _ _ _ us hl => match us, hl with | [_, _], _ => rfl,
    a_law := a29, d_law := _, F_law := fun_mk (st := s_law) l29 c29 k29, m_law := PySem.W.mg_of X G g29,
    b_law := (fun_mk (st := s_law) l29 c29 k29).binds (ps := p_law) fun _ _ _ _ _ _ us hl => match us, hl with | [_], _ => rfl,
    bz := fun s u => .of_eq rfl,
    z_abs := PySem.W.mg_none_of X G z_abs,
    z_bool := PySem.W.mg_none_of X G z_bool,
    z_enumerate := PySem.W.mg_none_of X G z_enumerate,
    z_int := PySem.W.mg_none_of X G z_int,
    z_isinstance := PySem.W.mg_none_of X G z_isinstance,
    z_len := PySem.W.mg_none_of X G z_len,
    z_list := PySem.W.mg_none_of X G z_list,
    z_min := PySem.W.mg_none_of X G z_min,
    z_range := PySem.W.mg_none_of X G z_range,
    z_repr := PySem.W.mg_none_of X G z_repr,
    z_sorted := PySem.W.mg_none_of X G z_sorted,
    z_tuple := PySem.W.mg_none_of X G z_tuple,
    c_TripError := c_TripError, m_TripError := PySem.W.mg_of X G gx_TripError, k_TripError := kx_TripError, xb_TripError := xb_TripError, xt_TripError := xt_TripError,
    c_NoPart := c_NoPart, m_NoPart := PySem.W.mg_of X G gx_NoPart, k_NoPart := kx_NoPart, xb_NoPart := xb_NoPart, xt_NoPart := xt_NoPart,
    c_NoButton := c_NoButton, m_NoButton := PySem.W.mg_of X G gx_NoButton, k_NoButton := kx_NoButton, xb_NoButton := xb_NoButton, xt_NoButton := xt_NoButton,
    ec_NoPart := ⟨xc_NoPart_hg, xc_NoPart_hk, xb_NoPart, xc_NoPart_hd, xc_NoPart_ha, xg_hn, xg_ht, xc_NoPart_hm⟩,
    ec_NoButton := ⟨xc_NoButton_hg, xc_NoButton_hk, xb_NoButton, xc_NoButton_hd, xc_NoButton_ha, xg_hn, xg_ht, xc_NoButton_hm⟩,
    a_NoPart__init__ := ai0, d_NoPart__init__ := _, F_NoPart__init__ := fun_mk (st := s_NoPart__init__) li0 ci0 ki0, b_NoPart__init__ := (fun_mk (st := s_NoPart__init__) li0 ci0 ki0).binds (ps := p_NoPart__init__) fun _ _ _ _ _ _ us hl => match us, hl with | [_, _], _ => rfl,
    ox_NoPart := ⟨⟨_, _, _, _, _, _, _, _, _, _, _, _, _, _, _, lx0, rx0⟩, sa0, xb_NoPart, xt_NoPart, kx_NoPart⟩, ii_NoPart := gi0, it_NoPart__init__ := ty0, no_NoPart := no0, xf_NoPart := ⟨xc_NoPart_hg, xc_NoPart_hk, xb_NoPart, xc_NoPart_hd⟩,
    a_NoButton__init__ := ai1, d_NoButton__init__ := _, F_NoButton__init__ := fun_mk (st := s_NoButton__init__) li1 ci1 ki1, b_NoButton__init__ := (fun_mk (st := s_NoButton__init__) li1 ci1 ki1).binds (ps := p_NoButton__init__) fun _ _ _ _ _ _ us hl => match us, hl with | [_, _], _ => rfl,
    ox_NoButton := ⟨⟨_, _, _, _, _, _, _, _, _, _, _, _, _, _, _, lx1, rx1⟩, sa1, xb_NoButton, xt_NoButton, kx_NoButton⟩, ii_NoButton := gi1, it_NoButton__init__ := ty1, no_NoButton := no1, xf_NoButton := ⟨xc_NoButton_hg, xc_NoButton_hk, xb_NoButton, xc_NoButton_hd⟩,
    cr_TripError := ⟨rd_TripError, ga_TripError⟩, vi_TripError := vi_TripError,
    kt_NoButton_TripError := kit_sub xi_TripError xt_TripError s_NoButton_TripError,
    e_NoButton_NoButton := exm_mk xb_NoButton xi_NoButton xt_NoButton s_NoButton_NoButton }
theorem all_mk {l : PySem.W.OpenLaw} {w : World} {K : PySem.W.Frag} {h : Heap} {mg : Str → Option Value} {fa : Addr} (X : K.In h) (G : h.Ns mainGlobals mg) (hfa : mg "law" = some (.ref fa)) (T : Cd K mg) :
    ∃ fd : FuncData, (∀ (s : Shared) (v : Value), BindsTo s fd ⟨[v], []⟩ [("_law_script", v)]) ∧ ∀ base : Heap, K.In base → base.Ns mainGlobals mg → FnG l.prog w K mg base 72 fa fd ["_law_script"] (spLaw K) := by
  have e := hfa.symm.trans T.m_law
  cases e
  exact ⟨T.d_law, T.bz, fun base _ _ => ok_law T⟩
end My
open PySem PySem.W PyProof.Rows in
set_option maxRecDepth 100000 in
set_option maxHeartbeats 0 in
theorem PySem.Challenge.cw_onescale_k28_gains_of_one_lot_holds : PySem.Challenge.rw_onescale_k28_gains_of_one_lot.Holds := by
  w_on; o_law; k_head; (case hw => w_witness2)
  k_fill
  refine Own.walk_ofG (l := PySem.Challenge.rw_onescale_k28_gains_of_one_lot) (n := 63) (k := 72) (x := "_law_script") (sp := My.spLaw) rfl (by decide) rfl ⟨rfl, by decide, by decide⟩ (fun w h Y => PySem.W.kIn_of Y) ?F
    (fun K H a ns hl _ hS => ⟨a, ns, rfl, hS, hl, fun _ => rfl⟩)
  case F =>
    intro w mg fa h KX G hmg
    refine' My.all_mk KX G hmg (My.cd_mk KX G ?own_g0 ?own_l0 ?own_c0 ?own_k0 ?own_g1 ?own_l1 ?own_c1 ?own_k1 ?own_g2 ?own_l2 ?own_c2 ?own_k2 ?own_g3 ?own_l3 ?own_c3 ?own_k3 ?own_g4 ?own_l4 ?own_c4 ?own_k4 ?own_g5 ?own_l5 ?own_c5 ?own_k5 ?own_g6 ?own_l6 ?own_c6 ?own_k6 ?own_g7 ?own_l7 ?own_c7 ?own_k7 ?own_g8 ?own_l8 ?own_c8 ?own_k8 ?own_g9 ?own_l9 ?own_c9 ?own_k9 ?own_g10 ?own_l10 ?own_c10 ?own_k10 ?own_g11 ?own_l11 ?own_c11 ?own_k11 ?own_g12 ?own_l12 ?own_c12 ?own_k12 ?own_g13 ?own_l13 ?own_c13 ?own_k13 ?own_g14 ?own_l14 ?own_c14 ?own_k14 ?own_g15 ?own_l15 ?own_c15 ?own_k15 ?own_g16 ?own_l16 ?own_c16 ?own_k16 ?own_g17 ?own_l17 ?own_c17 ?own_k17 ?own_g18 ?own_l18 ?own_c18 ?own_k18 ?own_g19 ?own_l19 ?own_c19 ?own_k19 ?own_g20 ?own_l20 ?own_c20 ?own_k20 ?own_g21 ?own_l21 ?own_c21 ?own_k21 ?own_g22 ?own_l22 ?own_c22 ?own_k22 ?own_g23 ?own_l23 ?own_c23 ?own_k23 ?own_g24 ?own_l24 ?own_c24 ?own_k24 ?own_g25 ?own_l25 ?own_c25 ?own_k25 ?own_g26 ?own_l26 ?own_c26 ?own_k26 ?own_g27 ?own_l27 ?own_c27 ?own_k27 ?own_g28 ?own_l28 ?own_c28 ?own_k28 ?own_g29 ?own_l29 ?own_c29 ?own_k29 ?own_z_abs ?own_z_bool ?own_z_enumerate ?own_z_int ?own_z_isinstance ?own_z_len ?own_z_list ?own_z_min ?own_z_range ?own_z_repr ?own_z_sorted ?own_z_tuple ?own_gx_TripError ?own_kx_TripError ?own_xb_TripError ?own_xt_TripError ?own_xi_TripError ?own_gx_NoPart ?own_kx_NoPart ?own_xb_NoPart ?own_xt_NoPart ?own_xi_NoPart ?own_gx_NoButton ?own_kx_NoButton ?own_xb_NoButton ?own_xt_NoButton ?own_xi_NoButton ?own_gi0 ?own_li0 ?own_ci0 ?own_ki0 ?own_lx0 ?own_rx0 ?own_sa0 ?own_ty0 ?own_no0 ?own_gi1 ?own_li1 ?own_ci1 ?own_ki1 ?own_lx1 ?own_rx1 ?own_sa1 ?own_ty1 ?own_no1 ?own_rd_TripError ?own_ga_TripError ?own_vi_TripError ?own_s_NoButton_TripError ?own_s_NoButton_NoButton ?own_xg_hn ?own_xg_ht ?own_xc_NoPart_hg ?own_xc_NoPart_hk ?own_xc_NoPart_hd ?own_xc_NoPart_ha ?own_xc_NoPart_hm ?own_xc_NoButton_hg ?own_xc_NoButton_hk ?own_xc_NoButton_hd ?own_xc_NoButton_ha ?own_xc_NoButton_hm)
    (case own_g0 => first | k_is | k_exc | rfl); (case own_l0 => first | k_is | k_exc | rfl); (case own_c0 => first | k_is | k_exc | rfl); (case own_k0 => first | k_is | k_exc | rfl); (case own_g1 => first | k_is | k_exc | rfl); (case own_l1 => first | k_is | k_exc | rfl); (case own_c1 => first | k_is | k_exc | rfl); (case own_k1 => first | k_is | k_exc | rfl)
    (case own_g2 => first | k_is | k_exc | rfl); (case own_l2 => first | k_is | k_exc | rfl); (case own_c2 => first | k_is | k_exc | rfl); (case own_k2 => first | k_is | k_exc | rfl); (case own_g3 => first | k_is | k_exc | rfl); (case own_l3 => first | k_is | k_exc | rfl); (case own_c3 => first | k_is | k_exc | rfl); (case own_k3 => first | k_is | k_exc | rfl)
    (case own_g4 => first | k_is | k_exc | rfl); (case own_l4 => first | k_is | k_exc | rfl); (case own_c4 => first | k_is | k_exc | rfl); (case own_k4 => first | k_is | k_exc | rfl); (case own_g5 => first | k_is | k_exc | rfl); (case own_l5 => first | k_is | k_exc | rfl); (case own_c5 => first | k_is | k_exc | rfl); (case own_k5 => first | k_is | k_exc | rfl)
    (case own_g6 => first | k_is | k_exc | rfl); (case own_l6 => first | k_is | k_exc | rfl); (case own_c6 => first | k_is | k_exc | rfl); (case own_k6 => first | k_is | k_exc | rfl); (case own_g7 => first | k_is | k_exc | rfl); (case own_l7 => first | k_is | k_exc | rfl); (case own_c7 => first | k_is | k_exc | rfl); (case own_k7 => first | k_is | k_exc | rfl)
    (case own_g8 => first | k_is | k_exc | rfl); (case own_l8 => first | k_is | k_exc | rfl); (case own_c8 => first | k_is | k_exc | rfl); (case own_k8 => first | k_is | k_exc | rfl); (case own_g9 => first | k_is | k_exc | rfl); (case own_l9 => first | k_is | k_exc | rfl); (case own_c9 => first | k_is | k_exc | rfl); (case own_k9 => first | k_is | k_exc | rfl)
    (case own_g10 => first | k_is | k_exc | rfl); (case own_l10 => first | k_is | k_exc | rfl); (case own_c10 => first | k_is | k_exc | rfl); (case own_k10 => first | k_is | k_exc | rfl); (case own_g11 => first | k_is | k_exc | rfl); (case own_l11 => first | k_is | k_exc | rfl); (case own_c11 => first | k_is | k_exc | rfl); (case own_k11 => first | k_is | k_exc | rfl)
    (case own_g12 => first | k_is | k_exc | rfl); (case own_l12 => first | k_is | k_exc | rfl); (case own_c12 => first | k_is | k_exc | rfl); (case own_k12 => first | k_is | k_exc | rfl); (case own_g13 => first | k_is | k_exc | rfl); (case own_l13 => first | k_is | k_exc | rfl); (case own_c13 => first | k_is | k_exc | rfl); (case own_k13 => first | k_is | k_exc | rfl)
    (case own_g14 => first | k_is | k_exc | rfl); (case own_l14 => first | k_is | k_exc | rfl); (case own_c14 => first | k_is | k_exc | rfl); (case own_k14 => first | k_is | k_exc | rfl); (case own_g15 => first | k_is | k_exc | rfl); (case own_l15 => first | k_is | k_exc | rfl); (case own_c15 => first | k_is | k_exc | rfl); (case own_k15 => first | k_is | k_exc | rfl)
    (case own_g16 => first | k_is | k_exc | rfl); (case own_l16 => first | k_is | k_exc | rfl); (case own_c16 => first | k_is | k_exc | rfl); (case own_k16 => first | k_is | k_exc | rfl); (case own_g17 => first | k_is | k_exc | rfl); (case own_l17 => first | k_is | k_exc | rfl); (case own_c17 => first | k_is | k_exc | rfl); (case own_k17 => first | k_is | k_exc | rfl)
    (case own_g18 => first | k_is | k_exc | rfl); (case own_l18 => first | k_is | k_exc | rfl); (case own_c18 => first | k_is | k_exc | rfl); (case own_k18 => first | k_is | k_exc | rfl); (case own_g19 => first | k_is | k_exc | rfl); (case own_l19 => first | k_is | k_exc | rfl); (case own_c19 => first | k_is | k_exc | rfl); (case own_k19 => first | k_is | k_exc | rfl)
    (case own_g20 => first | k_is | k_exc | rfl); (case own_l20 => first | k_is | k_exc | rfl); (case own_c20 => first | k_is | k_exc | rfl); (case own_k20 => first | k_is | k_exc | rfl); (case own_g21 => first | k_is | k_exc | rfl); (case own_l21 => first | k_is | k_exc | rfl); (case own_c21 => first | k_is | k_exc | rfl); (case own_k21 => first | k_is | k_exc | rfl)
    (case own_g22 => first | k_is | k_exc | rfl); (case own_l22 => first | k_is | k_exc | rfl); (case own_c22 => first | k_is | k_exc | rfl); (case own_k22 => first | k_is | k_exc | rfl); (case own_g23 => first | k_is | k_exc | rfl); (case own_l23 => first | k_is | k_exc | rfl); (case own_c23 => first | k_is | k_exc | rfl); (case own_k23 => first | k_is | k_exc | rfl)
    (case own_g24 => first | k_is | k_exc | rfl); (case own_l24 => first | k_is | k_exc | rfl); (case own_c24 => first | k_is | k_exc | rfl); (case own_k24 => first | k_is | k_exc | rfl); (case own_g25 => first | k_is | k_exc | rfl); (case own_l25 => first | k_is | k_exc | rfl); (case own_c25 => first | k_is | k_exc | rfl); (case own_k25 => first | k_is | k_exc | rfl)
    (case own_g26 => first | k_is | k_exc | rfl); (case own_l26 => first | k_is | k_exc | rfl); (case own_c26 => first | k_is | k_exc | rfl); (case own_k26 => first | k_is | k_exc | rfl); (case own_g27 => first | k_is | k_exc | rfl); (case own_l27 => first | k_is | k_exc | rfl); (case own_c27 => first | k_is | k_exc | rfl); (case own_k27 => first | k_is | k_exc | rfl)
    (case own_g28 => first | k_is | k_exc | rfl); (case own_l28 => first | k_is | k_exc | rfl); (case own_c28 => first | k_is | k_exc | rfl); (case own_k28 => first | k_is | k_exc | rfl); (case own_g29 => first | k_is | k_exc | rfl); (case own_l29 => first | k_is | k_exc | rfl); (case own_c29 => first | k_is | k_exc | rfl); (case own_k29 => first | k_is | k_exc | rfl)
    (case own_z_abs => first | k_is | k_exc | rfl); (case own_z_bool => first | k_is | k_exc | rfl); (case own_z_enumerate => first | k_is | k_exc | rfl); (case own_z_int => first | k_is | k_exc | rfl); (case own_z_isinstance => first | k_is | k_exc | rfl); (case own_z_len => first | k_is | k_exc | rfl); (case own_z_list => first | k_is | k_exc | rfl); (case own_z_min => first | k_is | k_exc | rfl)
    (case own_z_range => first | k_is | k_exc | rfl); (case own_z_repr => first | k_is | k_exc | rfl); (case own_z_sorted => first | k_is | k_exc | rfl); (case own_z_tuple => first | k_is | k_exc | rfl); (case own_gx_TripError => first | k_is | k_exc | rfl); (case own_kx_TripError => first | k_is | k_exc | rfl); (case own_xb_TripError => first | k_is | k_exc | rfl); (case own_xt_TripError => first | k_is | k_exc | rfl)
    (case own_xi_TripError => first | k_is | k_exc | rfl); (case own_gx_NoPart => first | k_is | k_exc | rfl); (case own_kx_NoPart => first | k_is | k_exc | rfl); (case own_xb_NoPart => first | k_is | k_exc | rfl); (case own_xt_NoPart => first | k_is | k_exc | rfl); (case own_xi_NoPart => first | k_is | k_exc | rfl); (case own_gx_NoButton => first | k_is | k_exc | rfl); (case own_kx_NoButton => first | k_is | k_exc | rfl)
    (case own_xb_NoButton => first | k_is | k_exc | rfl); (case own_xt_NoButton => first | k_is | k_exc | rfl); (case own_xi_NoButton => first | k_is | k_exc | rfl); (case own_gi0 => first | k_is | k_exc | rfl); (case own_li0 => first | k_is | k_exc | rfl); (case own_ci0 => first | k_is | k_exc | rfl); (case own_ki0 => first | k_is | k_exc | rfl); (case own_lx0 => first | k_is | k_exc | rfl)
    (case own_rx0 => first | k_is | k_exc | rfl); (case own_sa0 => first | k_is | k_exc | rfl); (case own_ty0 => first | k_is | k_exc | rfl); (case own_no0 => first | k_is | k_exc | rfl); (case own_gi1 => first | k_is | k_exc | rfl); (case own_li1 => first | k_is | k_exc | rfl); (case own_ci1 => first | k_is | k_exc | rfl); (case own_ki1 => first | k_is | k_exc | rfl)
    (case own_lx1 => first | k_is | k_exc | rfl); (case own_rx1 => first | k_is | k_exc | rfl); (case own_sa1 => first | k_is | k_exc | rfl); (case own_ty1 => first | k_is | k_exc | rfl); (case own_no1 => first | k_is | k_exc | rfl); (case own_rd_TripError => first | k_is | k_exc | rfl); (case own_ga_TripError => first | k_is | k_exc | rfl); (case own_vi_TripError => first | k_is | k_exc | rfl)
    (case own_s_NoButton_TripError => first | k_is | k_exc | rfl); (case own_s_NoButton_NoButton => first | k_is | k_exc | rfl); (case own_xg_hn => first | k_is | k_exc | rfl); (case own_xg_ht => first | k_is | k_exc | rfl); (case own_xc_NoPart_hg => first | k_is | k_exc | rfl); (case own_xc_NoPart_hk => first | k_is | k_exc | rfl); (case own_xc_NoPart_hd => first | k_is | k_exc | rfl); (case own_xc_NoPart_ha => first | k_is | k_exc | rfl)
    (case own_xc_NoPart_hm => first | k_is | k_exc | rfl); (case own_xc_NoButton_hg => first | k_is | k_exc | rfl); (case own_xc_NoButton_hk => first | k_is | k_exc | rfl); (case own_xc_NoButton_hd => first | k_is | k_exc | rfl); (case own_xc_NoButton_ha => first | k_is | k_exc | rfl); (case own_xc_NoButton_hm => first | k_is | k_exc | rfl)
