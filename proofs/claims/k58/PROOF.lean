import PyProof.Rows.All
import Wide.All
import OpenK.AllK
import Wide.FinOn
import HandS.Base
import HandS.Call
import HandS.List
import HandS.Comp
import HandS.Ends
import HandS.Dict
import HandS.Iter
import HandS.Text
import HandS.Words
import HandS.Exc
import HandS.ExcOwn
import KE.KRevSl
import HandS.ForMost
import HandS.TryMany
import HandS.WordsExc
import HandS.IsInst
import HandS.Conv
import HandS.TupAny
import HandS.Style
import HandS.Walk
import KE.GoesMore
import KE.GoesEnum
import KE.LtData
import KE.KSortAsk
import HandS.Sort
import HandS.SortOrd
import HandS.SortInts
import KE.SortKeyHeap
import HandS.SortKw
import HandS.Keys
import KE.BitLaws
import HandS.WideBits
import HandS.Strs
import HandS.SetFor
import HandS.Zip
import HandS.ExcIs
import HandS.Gcd
import KE.KMathGC
import KE.SortData
import HandS.Deep
import PySem.Challenge.RW_onescale_k58_whole_rows_of_plain_shapes
set_option Elab.async false
set_option linter.all false
set_option maxRecDepth 100000
set_option maxHeartbeats 4000000
namespace Own
open PySem PySem.Spec PyProof.Rows L2

/-! ### repr of data, where no repr is under way -/
section
variable {X : Cx}
def rRepr (K : PySem.W.Frag) : List V → Hp → VK → Prop := fun xs H Q =>
  ∃ (v : V) (d : PyData), xs = [v] ∧ Dp K H v d ∧ d.showable = true ∧ d.hasDict = false ∧ d.depth ≤ 60 ∧ d.shown.length ≤ sizeLine ∧ Q (.str d.shown) H
theorem call_repr (hg : X.A.guards = some []) (hu : X.A.units + 64 < cLine) : CallR X (.builtin "repr") (rRepr X.K) := by
  rintro pins s σ H xs us Q I rv ⟨v, d, rfl, hd, hs, hn, hdp, hz, q⟩
  obtain ⟨u, rfl, ru⟩ := vals1 rv
  obtain ⟨as, rd⟩ := Dp.reads I d v u hd ru
  cases rd with
  | none => exact PySem.P.repr_of_none ⟨.str "None", H, I.tok _, ⟨_, rfl⟩, by simpa only [PyData.shown] using q⟩
  | bool b => exact PySem.P.repr_of_bool ⟨.str _, H, I.tok _, ⟨_, rfl⟩, by simpa only [PyData.shown] using q⟩
  | int i t => exact PySem.P.repr_of_int (by simpa [PyData.showable] using hs) ⟨.str _, H, I.tok _, ⟨_, rfl⟩, by simpa only [PyData.shown] using q⟩
  | str y t => exact PySem.P.repr_of_str ⟨.str _, H, I.tok _, ⟨_, rfl⟩, by simpa only [PyData.shown] using q⟩ (by simpa only [PyData.shown] using hz)
  | list h1 h2 h3 h4 =>
    exact repr_of_reads' (.list h1 h2 h3 h4) hs (PyData.noDict_hsm hn) hg (by omega) (fun _ _ e => e)
      (fun h' w' tk hk => ⟨.str _, H, I.kept (t' := tk) hk, ⟨_, rfl⟩, q⟩) hz
  | tuple h1 h2 h3 h4 =>
    exact repr_of_reads' (.tuple h1 h2 h3 h4) hs (PyData.noDict_hsm hn) hg (by omega) (fun _ _ e => e)
      (fun h' w' tk hk => ⟨.str _, H, I.kept (t' := tk) hk, ⟨_, rfl⟩, q⟩) hz
  | dict h1 h2 h3 h4 h5 => simp [PyData.hasDict] at hn
end

/-! ### defs that are called where no repr is under way -/
structure FnG (P : Program) (w : World) (K : PySem.W.Frag) (mg : Str → Option Value) (base : Heap) (k : Nat) (f : Addr) (fd : FuncData) (ps : List Str) (sp : Sp) : Prop where
  len : ∀ vs H Q E, sp vs H Q E → vs.length = ps.length
  run : ∀ (A : Around) (outer : List Env) (s : Shared) (H : Hp) (args : Args) (us : List Value) (vs : List V) (Q : VK), Room k A → A.guards = some [] →
    Env0 P w K mg base A outer s H → BindsTo s fd args (ps.zip us) → Vals vs us → sp vs H Q E0 →
    codeAny (model P w) A (.call (.ref f) args) (CR CX0 outer P w H s Q E0) s
section
variable {P : Program} {w : World} {K : PySem.W.Frag} {mg : Str → Option Value} {base : Heap}
theorem okG {x qual : Str} {st : Stmt} {f : Addr} {fd : FuncData} {N ps : List Str} {k : Nat} {sp : Sp} (F : Fun K x qual st f fd) (S : FnScope N ps (defScope st))
    (len : ∀ vs H Q E, sp vs H Q E → vs.length = ps.length)
    (hbody : ∀ (cdv : Value) (A : Around) (outer : List Env) (s : Shared) (H : Hp) (vs : List V) (Q : VK), Room k (A.deeper (envOfC qual (defScope st) s.heap.objs.size f cdv)) → A.guards = some [] → sp vs H Q E0 →
      ∃ t, PSs (cxOf CX0 P w K mg base N qual (defScope st) f cdv A outer s H E0).nox (defBody st) t ∧ t { nx := fun _ H' => Q .non H', rt := Q } (start N vs) H) :
    FnG P w K mg base (k + 1) f fd ps sp := by
  obtain ⟨oc, od, kV, doc, pm, an, cdv, ct, osl, rfl, lk, hcd⟩ := F.ex
  constructor
  · exact len
  intro A outer s H args us vs Q hr hgd e0 hb rel hsp
  have old : ∀ b o, base.get? b = some o → s.heap.get? b = some o := fun b o e => (e0.bs b o e).1
  have kin : K.In s.heap := e0.mod.kin.keeps old
  have kinds : ∀ y ∈ ps.zip us, (defScope st).names.lookup y.1 = some .local ∨
      ((defScope st).names.lookup y.1 = some .cell ∧ ((cellsFrom (s.heap.objs.size + 1) (defScope st).names []).lookup y.1).isSome = true) := by
    rintro ⟨n, v⟩ hy
    rcases S.par n (List.of_mem_zip hy).1 with loc | cel
    · exact .inl loc
    · exact .inr ⟨cel, PySem.W.cellsFrom_some _ _ _ (.inl cel)⟩
  refine codeAny_call_function hr.depth (kin _ _ lk) rfl S.co S.gen rfl (PySem.W.codeRec_of kin hcd) (hb _ _ _ _ (wpAny_newFunctionEnv_cells S.kind kinds ?_))
  rintro env rfl s1 x
  obtain ⟨t, ht, goal⟩ := hbody cdv A outer s H vs Q (hr.deeper _) hgd hsp
  have ini : Inv (cxOf CX0 P w K mg base N qual (defScope st) f cdv A outer s H E0) [] (start N vs) H s1 := inv_start S hr.hd e0 (len _ _ _ _ hsp) rel x
  refine ⟨(e0.mod.nolimit.keeps old).keeps x.toInCall.keep, codeAny_func (wpAny_mono (ht.nox.run [] s1 _ H _ ini goal) (fun fl s' hs => ?_) fun e s' z => z)⟩
  cases fl with
  | ret u =>
    obtain ⟨v, σ', H', J, rv, q⟩ := hs
    exact ⟨v, H', J.os, J.bare, J.base, J.hok, rv, q⟩
  | next =>
    obtain ⟨σ', H', J, q⟩ := hs
    exact ⟨.non, H', J.os, J.bare, J.base, J.hok, rfl, q⟩
  | brk => exact (hs.choose_spec.choose_spec.2).elim
  | cont => exact (hs.choose_spec.choose_spec.2).elim
end
section
variable {X : Cx} {k : Nat} {f : Addr} {fd : FuncData} {ps : List Str} {sp : Sp} {x : Str} {p pos : Pos} {e : Expr} {es : List Expr} {t : TA}
theorem FnG.of {P : Program} {w : World} {K : PySem.W.Frag} {mg : Str → Option Value} {base : Heap} (F : FnOk P w K mg base CX0 k f fd ps sp) : FnG P w K mg base k f fd ps sp :=
  ⟨F.len, fun A outer s H args us vs Q hr _ e0 hb rel hsp => F.run A outer s H args us vs Q E0 hr e0 hb rel hsp⟩
/-- the call's end, back in the caller -/
theorem backG {pins : List (Addr × Obj)} {σ : L2.St} {H : Hp} {s : Shared} {Q : VK} {args : Args} {us : List Value} {vs : List V} (F : FnG X.prog X.w X.K X.mg X.base k f fd ps sp) (hr : Room k X.A) (hgd : X.A.guards = some [])
    (I : Inv X pins σ H s) (hb : BindsTo s fd args (ps.zip us)) (rel : Vals vs us) (h : sp vs H Q E0) : wpAny (model X.prog X.w) X.A (call (.ref f) args.pos args.kw) (EP X pins σ Q) X.xe s := by
  refine wpAny_call (codeAny_mono (F.run X.A X.stack s H args us vs Q hr hgd I.env0 hb rel h) fun res s' hq => ?_)
  match res, hq with
  | .ok (.ret u), hq => exact I.after hq
  | .ok .next, hq => exact hq.elim
  | .ok .brk, hq => exact hq.elim
  | .ok .cont, hq => exact hq.elim
  | .error e, hq => exact hq.elim
theorem pe_callG (F : FnG X.prog X.w X.K X.mg X.base k f fd ps sp) (hr : Room k X.A) (hgd : X.A.guards = some []) (hg : Gl X x) (hm : X.mg x = some (.ref f)) (hk : PySem.W.keepIn X.K (.ref f) = true) (hb : Binds X.K fd ps [])
    (ha : PA X (e :: es) t) (hdb : (x == ("__debug__" : Str)) = false := by decide) (he : starEach (e :: es) X.env = (false, eval e X.env) :: starEach es X.env := by rfl) (hpl : (backTo pos (starEach es X.env)).any (·.1) = false := by rfl) :
    PE X (.Call (.Name x p) (e :: es) [] pos) (tCall sp [] E0 t) := by
  constructor
  intro pins s σ H Q I h
  have body := ha.run pos pins s σ H _ I h
  refine wpAny_Call_Name_kw (ld_glob I hg hm (PySem.W.callWith_K (h₀ := X.base) I.ok.mod.kin hk (thn body ?_) he hpl) hdb)
  rintro us s1 ⟨vs, H1, I1, rel, q⟩
  refine ⟨I1.kIn, ?_⟩
  rw [List.append_nil] at q
  have hl : us.length = ps.length := rel.length.symm.trans (F.len _ _ _ _ q)
  have b := hb s1 us I1.kIn (by rw [List.append_nil]; exact hl)
  rw [List.append_nil] at b
  exact backG (args := ⟨us, []⟩) F hr hgd I1 b rel q
end
end Own

namespace Own
open PySem PySem.Spec PyProof.Rows L2

/-! ### calls by keywords alone -/
/-- the keywords' values in the parameters' order -/
def inOrder {α : Type} (o : α) (π : List Nat) (zs : List α) : List α := π.map fun i => (zs[i]?).getD o
theorem rel_getD : ∀ {zs : List V} {ws : List Value} (i : Nat), Vals zs ws → L2.RelV ((zs[i]?).getD .non) ((ws[i]?).getD .none)
  | _, _, i, .nil => by simp [L2.RelV]
  | _, _, 0, .cons r _ => by simpa using r
  | _, _, i + 1, .cons _ t => by simpa using rel_getD i t
theorem rel_inOrder {zs : List V} {ws : List Value} (r : Vals zs ws) : ∀ π : List Nat, Vals (inOrder .non π zs) (inOrder .none π ws)
  | [] => .nil
  | i :: π => .cons (rel_getD i r) (rel_inOrder r π)
section
variable {X : Cx} {CX : CXT} {k : Nat} {f : Addr} {fd : FuncData} {ps ks : List Str} {sp : Sp} {E : L2.St → XK} {x : Str} {p pos : Pos} {kws : List Keyword} {tk : TA} {π : List Nat}
/-- how a call by keywords alone binds -/
def KwBinds (fd : FuncData) (ps ks : List Str) (π : List Nat) : Prop := ∀ (s : Shared) (ws : List Value), ws.length = ks.length → BindsTo s fd ⟨[], ks.zip ws⟩ (ps.zip (inOrder .none π ws))
def tKw (sp : Sp) (π : List Nat) (n : Nat) (E : L2.St → XK) (tk : TA) : TE := fun σ H Q => tk σ H fun zs H1 => zs.length = n ∧ sp (inOrder .non π zs) H1 Q (E σ)
theorem pe_kwS (F : FnOk X.prog X.w X.K X.mg X.base CX k f fd ps sp) (hr : Room k X.A) (hg : Gl X x) (hm : X.mg x = some (.ref f)) (hk : PySem.W.keepIn X.K (.ref f) = true) (hb : KwBinds fd ps ks π)
    (hx : ∀ σ, PassesAt CX X σ (E σ)) (hkw : PK X kws tk)
    (hall : (backToKw pos (keywordEach kws X.env)).all (·.1.isSome) = true := by rfl) (hks : (backToKw pos (keywordEach kws X.env)).filterMap (·.1) = ks := by rfl) (hdb : (x == ("__debug__" : Str)) = false := by decide)
    (hpl : ((backTo pos (starEach [] X.env)).any (·.1) || (backToKw pos (keywordEach kws X.env)).any (·.1.isNone)) = false := by rfl) :
    PE X (.Call (.Name x p) [] kws pos) (tKw sp π ks.length E tk) := by
  constructor
  intro pins s σ H Q I h
  have args := hkw.run pos pins s σ H _ I h
  refine wpAny_Call_Name_kw (ld_glob I hg hm (PySem.W.callWith_KW0 (h₀ := X.base) I.ok.mod.kin hk hall (thn args ?_) hpl) hdb)
  rintro ws s2 ⟨zs, H2, I2, rz, hn, q2⟩
  refine ⟨I2.kIn, ?_⟩
  rw [hks]
  have hb2 := hb s2 ws (rz.length.symm.trans hn)
  refine wpAny_call (codeAny_mono (F.run X.A X.stack s2 H2 ⟨[], ks.zip ws⟩ (inOrder .none π ws) (inOrder .non π zs) Q (E σ) hr I2.env0 hb2 (rel_inOrder rz π) q2) fun res s' hq => ?_)
  match res, hq with
  | .ok (.ret u), hq => exact I2.after hq
  | .ok .next, hq => exact hq.elim
  | .ok .brk, hq => exact hq.elim
  | .ok .cont, hq => exact hq.elim
  | .error e, hq => exact hx σ pins H2 s2 e s' I2 hq
/-- .. where nothing may be raised -/
theorem pe_kw {E1 : XK} (F : FnOk X.prog X.w X.K X.mg X.base CX k f fd ps sp) (hr : Room k X.A) (hg : Gl X x) (hm : X.mg x = some (.ref f)) (hk : PySem.W.keepIn X.K (.ref f) = true) (hb : KwBinds fd ps ks π)
    (hx : Passes CX X E1) (hkw : PK X kws tk)
    (hall : (backToKw pos (keywordEach kws X.env)).all (·.1.isSome) = true := by rfl) (hks : (backToKw pos (keywordEach kws X.env)).filterMap (·.1) = ks := by rfl) (hdb : (x == ("__debug__" : Str)) = false := by decide)
    (hpl : ((backTo pos (starEach [] X.env)).any (·.1) || (backToKw pos (keywordEach kws X.env)).any (·.1.isNone)) = false := by rfl) :
    PE X (.Call (.Name x p) [] kws pos) (tKw sp π ks.length (fun _ => E1) tk) :=
  pe_kwS F hr hg hm hk hb (fun σ pins H s e s' I c => hx pins σ H s e s' I c) hkw hall hks hdb hpl
end
theorem kwBinds {K : PySem.W.Frag} {x qual : Str} {st : Stmt} {f : Addr} {fd : FuncData} {ps ks : List Str} {π : List Nat} (F : Fun K x qual st f fd)
    (h : ∀ (kV doc pm : Value) (an : Option Addr) (cdv ct : Value) (ws : List Value), ws.length = ks.length → bindArgs (PySem.W.fnOf x qual (defArgs st) (defBody st) (defScope st) .none kV doc pm an cdv ct) ⟨[], ks.zip ws⟩ = pure (ps.zip (inOrder .none π ws))) : KwBinds fd ps ks π := by
  obtain ⟨oc, od, kV, doc, pm, an, cdv, ct, osl, rfl, lk, hcd⟩ := F.ex
  exact fun s ws hw => .of_eq (h kV doc pm an cdv ct ws hw)

/-! ### t[::-1] of a tuple -/
section
variable {prog : Program} {w : World} {A : Around} {E : Value → Shared → Prop} {s : Shared}
theorem adjust_back (n : Nat) : Builtin.Slice.sliceAdjust none none (-1) (n : Int) = ((n : Int) - 1, -1) := by
  unfold Builtin.Slice.sliceAdjust
  simp
theorem places_back (n : Nat) : Builtin.Slice.slicePlaces ((n : Int) - 1) (-1) (-1) = n := by
  have h1 : ¬ ((-1 : Int) > 0) := by omega
  have h2 : (-(-1) : Int) = 1 := by decide
  unfold Builtin.Slice.slicePlaces
  rw [if_neg h1, h2, Int.ediv_one]
  split <;> omega
theorem applied_back {sl : Addr} {vs : Value} {n : Nat} {Q : Int × Int × Nat → Shared → Prop} (hs : s.heap.IsSliceOf sl .none .none vs) (pst : IsPart vs (some (-1)))
    (h : Q ((n : Int) - 1, -1, n) s) : wpAny (model prog w) A (Builtin.Slice.sliceApplied (.ref sl) (pure (n : Int))) Q E s := by
  obtain ⟨os, hos, hcs, hds⟩ := id hs
  unfold Builtin.Slice.sliceApplied Builtin.Slice.sliceFields
  refine wpAny_bind (wpAny_bind (wpAny_field hos hds (x := .none) rfl (wpAny_bind (wpAny_field hos hds (x := .none) rfl (wpAny_bind (wpAny_field hos hds (x := vs) rfl (wpAny_pure ?_)))))))
  refine wpAny_bind (HT.slicePart_ pst ?_)
  show wpAny _ _ (if ((-1 : Int) == 0) = true then _ else _) _ _ s
  rw [if_neg (by decide)]
  refine wpAny_bind (HT.slicePart_ IsPart.none (wpAny_bind (HT.slicePart_ IsPart.none (wpAny_bind (wpAny_pure ?_)))))
  show wpAny _ _ (match Builtin.Slice.sliceAdjust none none (-1) (n : Int) with | (lo, hi) => pure (lo, (-1 : Int), Builtin.Slice.slicePlaces lo hi (-1))) _ _ s
  rw [adjust_back n]
  show wpAny _ _ (pure ((n : Int) - 1, (-1 : Int), Builtin.Slice.slicePlaces ((n : Int) - 1) (-1) (-1))) _ _ s
  rw [places_back]
  exact wpAny_pure h
theorem pick_back (xs : Array Value) : ((List.range xs.size).filterMap fun (m : Nat) => xs[((xs.size : Int) - 1 + (m : Int) * -1).toNat]?).toArray = xs.toList.reverse.toArray := by
  have e1 : (List.range xs.size).filterMap (fun (m : Nat) => xs[((xs.size : Int) - 1 + (m : Int) * -1).toNat]?) = ((List.range xs.size).map fun k => xs.size - 1 - k).filterMap (xs[·]?) := by
    rw [List.filterMap_map]
    congr 1
    funext m
    have : ((xs.size : Int) - 1 + (m : Int) * -1).toNat = xs.size - 1 - m := by omega
    rw [this]
    rfl
  rw [e1, PySem.W.krv_range, List.filterMap_reverse, PySem.W.krv_all]
theorem getItem_back {t sl : Addr} {items : Array Value} {vs : Value} {Q : Value → Shared → Prop} (ht : IsTup s.heap t items) (hs : s.heap.IsSliceOf sl .none .none vs) (pst : IsPart vs (some (-1)))
    (h : Q (.ref s.heap.objs.size) { s with heap := s.heap.push { cls := .type "tuple", data := .seq items.toList.reverse.toArray } }) (hsz : items.size ≤ sizeLine) :
    wpAny (model prog w) A (getItem (.ref t) (.ref sl)) Q E s := by
  have fits : sizeOk (.seq items.toList.reverse.toArray) := by
    show items.toList.reverse.toArray.size ≤ sizeLine
    rw [List.size_toArray, List.length_reverse, Array.length_toList]
    exact hsz
  obtain ⟨os, hos, hcs, hds⟩ := id hs
  have hTs : s.TypeIs (.ref sl) "slice" := ⟨os, hos, hcs⟩
  unfold getItem
  try with_reducible refine wpAny_holding ?_
  first | refine wpAny_bind (wpAny_pure ?_) | skip
  refine wpAny_bind (wpAny_sequenceKey ht.typeIs (by decide) (wpAny_bind (wpAny_callSpecial?_slot (name := Str.ofString "__getitem__") ht.typeIs PyProof.Rows.slot_tuple_getitem
    (wpAny_call_entry PyProof.Rows.slot_tuple_getitem ht.typeIs entry_tuple_getitem ?_ (args_tuple_getitem _ _)))))
  show wpAny _ _ (Builtin.Tuple.tupleItemsOf (.ref t) >>= _) _ _ s
  refine wpAny_bind (tupleItemsOf_ ht (wpAny_bind (wpAny_typeOf hTs ?_)))
  rw [if_pos (by decide)]
  refine wpAny_bind (applied_back hs pst ?_)
  have no : ¬ (((items.size : Int) - 1 == 0 && (-1 : Int) == 1 && items.size == items.size) = true) := by
    intro q
    rw [Bool.and_eq_true, Bool.and_eq_true] at q
    exact absurd q.1.2 (by decide)
  show wpAny _ _ (if ((items.size : Int) - 1 == 0 && (-1 : Int) == 1 && items.size == items.size) = true then _ else _) _ _ s
  rw [if_neg no, pick_back]
  first
    | exact wpAny_bind (m := Builtin.Tuple.tupleExact _) (wpAny_newObj_type (wpAny_pure ⟨_, rfl, wpAny_pure h⟩) fits)
    | exact wpAny_bind (wpAny_bind (m := Builtin.Tuple.tupleExact _) (wpAny_newObj_type (wpAny_pure ⟨_, rfl, wpAny_pure h⟩) fits))
    | exact wpAny_bind (m := Builtin.Tuple.tupleExact _) (wpAny_newObj_type (wpAny_bind (wpAny_pure (wpAny_pure ⟨_, rfl, wpAny_pure h⟩))) fits)
end
section
variable {X : Cx}
def tRevT (K : PySem.W.Frag) (te : TE) : TE := fun σ H Q => te σ H fun x H1 => ∃ a xs, x = .ref a ∧ SqT K H1 a xs ∧ ∀ p, H1 p = none → Q (.ref p) (upd H1 p (.tup xs.reverse))
theorem pe_revT {e : Expr} {te : TE} {k : Nat} {p1 p2 p3 pos : Pos} (he : PE X e te) : PE X (.Subscript e (.Slice none none (some (.UnaryOp .USub (.Constant (.int 1) k p1) p2)) p3) pos) (tRevT X.K te) := by
  constructor
  intro pins s σ H Q I h
  refine Subscript_ (thn (he.run pins s σ H _ I h) ?_)
  rintro v s1 ⟨x, H1, I1, r1, a, xs, rfl, hx, q⟩
  cases r1
  have step : PO X (some (.UnaryOp .USub (.Constant (.int 1) k p1) p2)) (tPart (tUn (rU fun i => .int (-i)) (tC (.int 1)))) := po_some (pe_un un_neg pe_int)
  refine wpAny_Slice (thn (po_none.run pins s1 σ H1 (fun o H2 => o = none ∧ H2 = H1) I1 ⟨rfl, rfl⟩) ?_)
  rintro vl s2 ⟨l, H2, I2, pl, rfl, rfl⟩
  refine thn (po_none.run pins s2 σ H2 (fun o H3 => o = none ∧ H3 = H2) I2 ⟨rfl, rfl⟩) ?_
  rintro vu s3 ⟨u, H3, I3, pu, rfl, rfl⟩
  refine thn (step.run pins s3 σ H3 (fun o H4 => o = some (-1) ∧ H4 = H3) I3 ⟨1, rfl, -1, rfl, rfl, rfl⟩) ?_
  rintro vst s4 ⟨o, H4, I4, pst, rfl, rfl⟩
  cases pl
  cases pu
  generalize hs5 : ({ s4 with heap := s4.heap.push { cls := .type "slice", data := .fields #[.none, .none, vst] } } : Shared) = s5
  have I5 : Inv X pins σ H4 s5 := by
    rw [← hs5]
    exact I4.kept (t' := s4.toks) fun b ob z => Heap.get?_push_of_some _ z
  obtain ⟨its, rel, ht, hz⟩ := I5.tuple hx
  have hlen := rel.length
  have hsl : s5.heap.IsSliceOf s4.heap.objs.size .none .none vst := by
    rw [← hs5]
    exact Heap.IsSliceOf.new ..
  show wpAny (model X.prog X.w) X.A (subscriptTail e (.Slice none none (some (.UnaryOp .USub (.Constant (.int 1) k p1) p2)) p3) (.ref a) (.ref s4.heap.objs.size)) (EP X pins σ Q) X.xe _
  refine tail_any (ops := [.ref a, .ref s4.heap.objs.size]) ht.typeIs (PyProof.Rows.slot_tuple_getitem.lookup) ?_ (by with_unfolding_all rfl)
  refine getItem_back ht hsl pst ?_ (by rw [List.size_toArray]; omega)
  refine ⟨.ref _, _, I5.laid (t' := s5.toks) (o := .tup xs.reverse) (fun b ob z => Heap.get?_push_of_some _ z) (Nat.le_refl _) ?_, rfl, q _ (I5.hok.fresh (Nat.le_refl _))⟩
  exact ⟨by rw [List.length_reverse]; exact hz, _, rel.reverse, IsTup.new _ _⟩
end
end Own

namespace Own
open PySem PySem.Spec PyProof.Rows L2

/-! ### the end: the law's def under FnG -/
/-- the script's object, hidden from the base (or, a part of the written text, nothing is hidden) -/
def scriptHp (a : Addr) (vs : List Value) (ns : List Int) : Hp := fun b => if b = a then some (.frz { cls := .type "list", data := .seq vs.toArray } (.lst (ns.map V.int))) else none
theorem end_of {P : Program} {w : World} {K : PySem.W.Frag} {mg mb : Str → Option Value} {k : Nat} {fa a : Addr} {fd : FuncData} {x : Str} {sp : Sp} {s₁ : Shared} {vs : List Value} {ns : List Int} {H : Hp}
    (KX : K.In s₁.heap) (hns : s₁.heap.Ns mainGlobals mg) (hb : s₁.heap.Ns builtinsNs mb) (hbb : ∀ x : Str, x ≠ "__name__" → mb x = bootBuiltins x) (hlim : s₁.heap.NoLimit) (hg : s₁.gens = #[])
    (ha : s₁.heap.get? a = some { cls := .type "list", data := .seq vs.toArray }) (hr : Room k callerA)
    (F : ∀ base : Heap, K.In base → base.Ns mainGlobals mg → FnG P w K mg base k fa fd [x] sp) (hbind : ∀ (s : Shared) (u : Value), BindsTo s fd ⟨[u], []⟩ [(x, u)])
    (only : ∀ b u, H b = some u → b = a ∧ u = .frz { cls := .type "list", data := .seq vs.toArray } (.lst (ns.map V.int)) ∧ K.lookup a = none)
    (hok : HOk P w H s₁.heap) (hsp : sp [.ref a] H (fun v _ => v = .bl true) E0) :
    codeAny (model P w) callerA (.call (.ref fa) ⟨[.ref a], []⟩) (fun r s' => r = .ok (.ret (.bool true)) ∧ OldK s₁.heap s'.heap ∧ s'.os = s₁.os ∧ AllBare s'.gens) s₁ := by
  have free : ∀ {b : Addr} {o : Obj} {es : Array DictEntry} {ep : Nat}, s₁.heap.get? b = some o → o.data = .dict es ep → H b = none := by
    intro b o es ep e d
    cases q : H b with
    | none => rfl
    | some u =>
      obtain ⟨rfl, _, _⟩ := only b u q
      rw [ha] at e
      cases e
      exact nomatch d
  have kept : ∀ {b : Addr} {m : Str → Option Value}, s₁.heap.Ns b m → (hidT s₁.heap H).Ns b m := by
    rintro b m ⟨o, es, ep, e, d, r⟩
    exact ⟨o, es, ep, hidT_get e (free e d), d, r⟩
  have kin : K.In (hidT s₁.heap H) := by
    intro b o e
    refine hidT_get (KX b o e) ?_
    cases q : H b with
    | none => rfl
    | some u =>
      obtain ⟨rfl, _, no⟩ := only b u q
      rw [no] at e
      cases e
  have lim : (hidT s₁.heap H).NoLimit := by
    obtain ⟨mc, h1, h2⟩ := hlim
    exact ⟨mc, kept h1, h2⟩
  have start : Env0 P w K mg (hidT s₁.heap H) callerA [] s₁ H := by
    refine ⟨rfl, ⟨kin, kept hns, ⟨mb, kept hb, hbb⟩, lim⟩, fun b o e => of_hidT e, Nat.le_of_eq (hidT_size _ _), trivial, fun b z => ?_, hok, .of_eq hg⟩
    exact absurd (show b ∈ ([] : List Addr) from z) (by simp)
  have run := (F _ kin (kept hns)).run callerA [] s₁ H ⟨[.ref a], []⟩ [.ref a] [.ref a] _ hr rfl start (hbind s₁ (.ref a)) (.cons rfl .nil) hsp
  refine codeAny_mono run fun r s' h => ?_
  match r, h with
  | .error e, h => exact False.elim h
  | .ok .next, h => exact False.elim h
  | .ok .brk, h => exact False.elim h
  | .ok .cont, h => exact False.elim h
  | .ok (.ret u), ⟨v, H', os, bare, un, hok', r', q⟩ =>
    subst q
    obtain rfl : u = Value.bool true := r'
    refine ⟨rfl, OldK.of_keep fun b o e => ?_, os, bare⟩
    cases q : H b with
    | none => exact un.keep b o e q (by intro z; exact absurd (show b ∈ ([] : List Addr) from z) (by simp)) (by simp)
    | some u =>
      obtain ⟨rfl, rfl, _⟩ := only b u q
      have stays := (hok' b _ (un.frzs b _ _ q)).1
      rw [ha] at e
      cases e
      exact stays
theorem walk_ofG {l : PySem.W.OpenLaw} {n k : Nat} {q : Program} {loose : List Str} {XP : (Str → Option Value) → Heap → Prop} {YP : World → Heap → Prop} {d : DefRec} {K : Params → PySem.W.Frag} {sp : PySem.W.Frag → Sp} {x : Str}
    (hn : l.most = some n) (hn2 : n ≤ sizeLine) (hdf : d.params.defaults = []) (hr : Room k callerA)
    (hY : ∀ (w : World) (h : Heap), YP w h → (K w.params).In h)
    (F : ∀ (w : World) (mg : Str → Option Value) (fa : Addr) (h : Heap), (K w.params).In h → h.Ns mainGlobals mg → mg d.name = some (.ref fa) →
      ∃ fd : FuncData, (∀ (s : Shared) (u : Value), BindsTo s fd ⟨[u], []⟩ [(x, u)]) ∧
        ∀ base : Heap, (K w.params).In base → base.Ns mainGlobals mg → FnG l.prog w (K w.params) mg base k fa fd [x] (sp (K w.params)))
    (hsp : ∀ (K : PySem.W.Frag) (H : Hp) (a : Addr) (ns : List Int), ns.length ≤ n → (∀ b, b ≠ a → H b = none) → SqL K H a (ns.map V.int) → sp K [.ref a] H (fun v _ => v = .bl true) E0) :
    PySem.W.WalkO q loose XP YP l.row.toRowW d [] (fun f vs => PySem.call f vs) := by
  refine Att.attach_call hn hdf fun w s₀ s₁ mg mb fa o pm cd doc a vs ns G Y ho hd hcd hmg hobj hints hlen hg => ?_
  have KX := hY w _ Y
  obtain ⟨fd, hb, hF⟩ := F w mg fa _ KX G.T.g hmg
  have rel := vals_ints hints
  have lenV := hints.length
  cases hk : (K w.params).lookup a with
  | some o =>
    have e := KX a o hk
    rw [hobj] at e
    cases e
    refine end_of (H := fun _ => none) (ns := ns) KX G.T.g G.T.b G.T.builtins G.T.nolimit hg hobj hr hF hb (fun b u z => nomatch z) (fun b u z => nomatch z) (hsp _ _ a ns hlen (fun _ _ => rfl) ?_)
    exact .inr ⟨_, vs.toArray, _, hk, rfl, rfl, rfl, by rw [List.size_toArray, lenV]; exact Nat.le_trans hlen hn2, by simpa using rel⟩
  | none =>
    have at_a : scriptHp a vs ns a = some (.frz { cls := .type "list", data := .seq vs.toArray } (.lst (ns.map V.int))) := if_pos rfl
    have off : ∀ b, b ≠ a → scriptHp a vs ns b = none := fun b hb => if_neg hb
    refine end_of (H := scriptHp a vs ns) (ns := ns) KX G.T.g G.T.b G.T.builtins G.T.nolimit hg hobj hr hF hb (fun b u z => ?_) (fun b u z => ?_) (hsp _ _ a ns hlen off (.inl (.inr ⟨_, at_a⟩)))
    · by_cases hb : b = a
      · subst hb
        rw [at_a] at z
        exact ⟨rfl, (Option.some.inj z).symm, hk⟩
      · rw [off b hb] at z
        cases z
    · by_cases hb : b = a
      · subst hb
        rw [at_a] at z
        cases z
        exact ⟨hobj, by rw [List.length_map]; exact Nat.le_trans hlen hn2, vs, _, rel, hobj⟩
      · rw [off b hb] at z
        cases z
end Own

namespace Own
open PySem PySem.Spec PyProof.Rows L2

/-! ### X() of an own exception class without __init__ -/
section
variable {X : Cx} {C : Addr} {bmB : List Value} {B newId initId : String} {x : Str} {p pos : Pos}
theorem pmk_bare (F : ExcBaseFacts B newId initId bmB) (q : PySem.W.excIn X.K C bmB newId = true) (gC : X.mg x = some (.ref C)) (kC : PySem.W.keepIn X.K (.ref C) = true) (r : Raises X (.ref C)) (hg : Gl X x)
    (hdb : (x == ("__debug__" : Str)) = false := by decide) : PMk X (.Call (.Name x p) [] [] pos) (fun _ H Q => Q (.ref C) none H) := by
  intro pins s σ H Q I h
  obtain ⟨bm, N, nm, qn, bs, hdct, sn, sub, ab, col, dd, k0, k1, k2, k3, k5, mN, hC, hN, hni, T⟩ := exc_obj I.kIn q
  refine wpAny_Call_Name_kw (ld_glob I hg gC (PySem.W.callWith_K0 I.kIn kC ?_) hdb)
  exact wpAny_call_exc_subT F T hC hN hni (fun h' e hm => mk_of I hm r h (I.hok.gone hm.new)) (Nat.zero_le _)
end

/-! ### len( .. ) of a list made on the way, and other small words -/
theorem fresh_back {H H' : Hp} {p : Addr} (e : Same H H') (h : H' p = none) : H p = none := e.free h
theorem same_upd {H : Hp} {p : Addr} (o : HO) (h : H p = none) : Same H (upd H p o) := fun b u q => by
  rw [upd_ne (ne_of_none q h)]
  exact q
theorem same_upd2 {H H' : Hp} {p : Addr} (o : HO) (e : Same H H') (h : H p = none) : Same H (upd H' p o) := fun b u q => by
  rw [upd_ne (ne_of_none q h)]
  exact e b u q
/-- a statement, told by what holds behind it -/
theorem seq_cut {t u : TS} {D : Ends} {σ : L2.St} {H : Hp} (Z : L2.St → Hp → Prop) (h : ∀ N : L2.St → Hp → Prop, (∀ σ' H', Z σ' H' → N σ' H') → t { D with nx := N } σ H) (hz : ∀ σ' H', Z σ' H' → u D σ' H') : tSeq t u D σ H := h (u D) hz
/-- an expression, told by what holds of its value -/
theorem ex_cut {te : TE} {σ : L2.St} {H : Hp} {Q : VK} (Z : V → Hp → Prop) (h : ∀ Q' : VK, (∀ v H', Z v H' → Q' v H') → te σ H Q') (hz : ∀ v H', Z v H' → Q v H') : te σ H Q := h Q hz
/-- an if, told by what holds of its test -/
theorem if_cut {c : TT} {t u : TS} {D : Ends} {σ : L2.St} {H : Hp} (Z : Bool → Hp → Prop) (h : ∀ Q' : Bool → Hp → Prop, (∀ b H', Z b H' → Q' b H') → c σ H Q') (ht : ∀ H', Z true H' → t D σ H') (hf : ∀ H', Z false H' → u D σ H') : tIfS c t u D σ H := by
  refine h _ fun b H' z => ?_
  cases b with
  | true => exact iteT (ht H' z)
  | false => exact iteF (hf H' z)
theorem ifExp_cut {c : TT} {ta tb : TE} {σ : L2.St} {H : Hp} {Q : VK} (Z : Bool → Hp → Prop) (h : ∀ Q' : Bool → Hp → Prop, (∀ b H', Z b H' → Q' b H') → c σ H Q') (ht : ∀ H', Z true H' → ta σ H' Q) (hf : ∀ H', Z false H' → tb σ H' Q) : tIf c ta tb σ H Q := by
  refine h _ fun b H' z => ?_
  cases b with
  | true => exact iteT (ht H' z)
  | false => exact iteF (hf H' z)
/-! parts of lists -/
theorem cut_to {xs : List V} {k : Int} (h0 : 0 ≤ k) (h1 : k ≤ xs.length) : cutV xs none (some k) = xs.take k.toNat := by
  obtain ⟨n, rfl⟩ : ∃ n : Nat, k = n := ⟨k.toNat, by omega⟩
  unfold cutV
  rw [HT.sIx_none, HT.sIx_nat, List.drop_zero]
  congr 1
  omega
theorem cut_from {xs : List V} {k : Int} (h0 : 0 ≤ k) (h1 : k ≤ xs.length) : cutV xs (some k) none = xs.drop k.toNat := by
  obtain ⟨n, rfl⟩ : ∃ n : Nat, k = n := ⟨k.toNat, by omega⟩
  unfold cutV
  rw [HT.sIx_none, HT.sIx_nat]
  have e : min n xs.length = n := by omega
  rw [e, Int.toNat_natCast]
  exact List.take_of_length_le (by rw [List.length_drop]; omega)
theorem cut_ints (ms : List Int) (lo hi : Option Int) : ∃ ls : List Int, cutV (ms.map V.int) lo hi = ls.map V.int ∧ ls.length ≤ ms.length := by
  unfold cutV
  refine ⟨(ms.drop (HT.sIx (ms.map V.int).length 0 lo)).take (HT.sIx (ms.map V.int).length (ms.map V.int).length hi - HT.sIx (ms.map V.int).length 0 lo), ?_, ?_⟩
  · rw [List.map_take, List.map_drop]
  · rw [List.length_take, List.length_drop]
    omega
end Own

namespace Own
open PySem PySem.Spec PyProof.Rows L2

/-! ### trees of trips -/
inductive Tr where
  | b (i : Int)
  | t (k : Int) (ps : List Tr)
mutual
def Tr.go (L : List Int) : Tr → Bool
  | .b i => decide (i ∈ L)
  | .t k ps => decide (k ≤ (Tr.cnt L ps : Int))
def Tr.cnt (L : List Int) : List Tr → Nat
  | [] => 0
  | p :: r => (if p.go L = true then 1 else 0) + Tr.cnt L r
end
mutual
def Tr.held : Tr → List Int
  | .b i => [i]
  | .t _ ps => Tr.helds ps
def Tr.helds : List Tr → List Int
  | [] => []
  | p :: r => p.held ++ Tr.helds r
end
mutual
def Tr.deep : Tr → Nat
  | .b _ => 0
  | .t _ ps => Tr.deeps ps + 1
def Tr.deeps : List Tr → Nat
  | [] => 0
  | p :: r => max p.deep (Tr.deeps r)
end
mutual
def Tr.d : Tr → PyData
  | .b i => .int i
  | .t k ps => .tuple [.int k, .tuple (Tr.ds ps)]
def Tr.ds : List Tr → List PyData
  | [] => []
  | p :: r => p.d :: Tr.ds r
end
def Tr.isTrip : Tr → Bool
  | .b _ => false
  | .t _ _ => true
/-! how a tree lies in the heap -/
mutual
inductive At (H : Hp) : V → Tr → Prop
  | b (i : Int) : At H (.int i) (.b i)
  | t {a p : Addr} {k : Int} {vs : List V} {ps : List Tr} : H a = some (.tup [.int k, .ref p]) → H p = some (.tup vs) → Ats H vs ps → vs.length ≤ 1000 → At H (.ref a) (.t k ps)
inductive Ats (H : Hp) : List V → List Tr → Prop
  | nil : Ats H [] []
  | cons {v : V} {t : Tr} {vs : List V} {ts : List Tr} : At H v t → Ats H vs ts → Ats H (v :: vs) (t :: ts)
end
/-- the tuples are kept -/
def KT (H H' : Hp) : Prop := ∀ a xs, H a = some (.tup xs) → H' a = some (.tup xs)
theorem KT.of {H H' : Hp} (e : Same H H') : KT H H' := fun a xs h => e a _ h
theorem KT.trans {H H1 H2 : Hp} (a : KT H H1) (b : KT H1 H2) : KT H H2 := fun c xs h => b c xs (a c xs h)
mutual
theorem At.mono {H H' : Hp} (e : KT H H') : ∀ {v : V} {t : Tr}, At H v t → At H' v t
  | _, _, .b i => .b i
  | _, _, .t h1 h2 h3 h4 => .t (e _ _ h1) (e _ _ h2) (Ats.mono e h3) h4
theorem Ats.mono {H H' : Hp} (e : KT H H') : ∀ {vs : List V} {ts : List Tr}, Ats H vs ts → Ats H' vs ts
  | _, _, .nil => .nil
  | _, _, .cons h1 h2 => .cons (At.mono e h1) (Ats.mono e h2)
end
theorem At.same {H H' : Hp} (e : Same H H') {v : V} {t : Tr} (h : At H v t) : At H' v t := h.mono (KT.of e)
theorem Ats.same {H H' : Hp} (e : Same H H') {vs : List V} {ts : List Tr} (h : Ats H vs ts) : Ats H' vs ts := h.mono (KT.of e)
theorem Ats.length {H : Hp} : ∀ {vs : List V} {ts : List Tr}, Ats H vs ts → vs.length = ts.length
  | _, _, .nil => rfl
  | _, _, .cons _ h2 => by rw [List.length_cons, List.length_cons, Ats.length h2]
theorem Ats.get {H : Hp} : ∀ {vs : List V} {ts : List Tr} {i : Nat} {v : V}, Ats H vs ts → vs[i]? = some v → ∃ t, ts[i]? = some t ∧ At H v t
  | _, _, _, _, .nil, e => by simp at e
  | _, _, 0, _, .cons h1 _, e => by
    simp at e
    subst e
    exact ⟨_, rfl, h1⟩
  | _, _, i + 1, _, .cons _ h2, e => by
    obtain ⟨t, e1, h⟩ := Ats.get (i := i) h2 (by simpa using e)
    exact ⟨t, by simpa using e1, h⟩
theorem Ats.append {H : Hp} : ∀ {vs ws : List V} {ts us : List Tr}, Ats H vs ts → Ats H ws us → Ats H (vs ++ ws) (ts ++ us)
  | _, _, _, _, .nil, h => h
  | _, _, _, _, .cons h1 h2, h => .cons h1 (h2.append h)
mutual
theorem At.dp {K : PySem.W.Frag} {H : Hp} : ∀ {v : V} {t : Tr}, At H v t → Dp K H v t.d
  | _, _, .b i => by
    rw [Tr.d]
    exact .int i
  | _, _, .t h1 h2 h3 _ => by
    rw [Tr.d]
    exact .tup (SqT.of h1) (.cons (.int _) (.cons (.tup (SqT.of h2) (Ats.dp h3)) .nil))
theorem Ats.dp {K : PySem.W.Frag} {H : Hp} : ∀ {vs : List V} {ts : List Tr}, Ats H vs ts → DpAll K H vs (Tr.ds ts)
  | _, _, .nil => by
    rw [Tr.ds]
    exact .nil
  | _, _, .cons h1 h2 => by
    rw [Tr.ds]
    exact .cons h1.dp h2.dp
end
theorem cnt_snoc (L : List Int) : ∀ (ps : List Tr) (p : Tr), Tr.cnt L (ps ++ [p]) = Tr.cnt L ps + (if p.go L = true then 1 else 0)
  | [], p => by simp [Tr.cnt]
  | q :: r, p => by
    rw [List.cons_append, Tr.cnt, Tr.cnt, cnt_snoc L r p]
    omega
theorem take_snoc {α : Type} {l : List α} {i : Nat} {x : α} (h : l[i]? = some x) : l.take (i + 1) = l.take i ++ [x] := by
  rw [List.take_succ, h]
  rfl
theorem deep_get : ∀ {ps : List Tr} {i : Nat} {p : Tr}, ps[i]? = some p → p.deep ≤ Tr.deeps ps
  | [], _, _, h => by simp at h
  | q :: r, 0, p, h => by
    simp at h
    subst h
    rw [Tr.deeps]
    omega
  | q :: r, i + 1, p, h => by
    have := deep_get (ps := r) (i := i) (p := p) (by simpa using h)
    rw [Tr.deeps]
    omega
theorem helds_snoc : ∀ (ps : List Tr) (p : Tr), Tr.helds (ps ++ [p]) = Tr.helds ps ++ p.held
  | [], p => by simp [Tr.helds]
  | q :: r, p => by
    rw [List.cons_append, Tr.helds, Tr.helds, helds_snoc r p, List.append_assoc]
theorem deeps_snoc : ∀ (ps : List Tr) (p : Tr), Tr.deeps (ps ++ [p]) = max (Tr.deeps ps) p.deep
  | [], p => by simp [Tr.deeps]
  | q :: r, p => by
    rw [List.cons_append, Tr.deeps, Tr.deeps, deeps_snoc r p]
    omega
/-- a thing of a tree's kind: whether it is a tuple -/
theorem At.kind {K : PySem.W.Frag} {H : Hp} {v : V} {t : Tr} (h : At H v t) : ∃ ty : String, TyX K H v (.type ty) ∧ kitB ty "tuple" = some t.isTrip ∧ kitB ty "int" = some (!t.isTrip) := by
  cases h with
  | b i => exact ⟨"int", .base (.int i), (by decide +kernel : kitB "int" "tuple" = some false), (by decide +kernel : kitB "int" "int" = some true)⟩
  | t h1 _ _ _ => exact ⟨"tuple", .base (.tup h1), (by decide +kernel : kitB "tuple" "tuple" = some true), (by decide +kernel : kitB "tuple" "int" = some false)⟩
theorem in_ints (i : Int) (L : List Int) : inV (.int i) (L.map V.int) = decide (i ∈ L) := by
  unfold inV
  rw [List.any_map]
  induction L with
  | nil => simp
  | cons a L ih =>
    rw [List.any_cons, ih]
    by_cases h : a = i
    · subst h
      simp [eqV]
    · have : ¬ i = a := fun q => h q.symm
      simp [eqV, h, this]
theorem flat_ints (L : List Int) : (L.map V.int).all flatV = true := by
  rw [List.all_map, List.all_eq_true]
  intro x _
  rfl
end Own

namespace Own
open PySem PySem.Spec PyProof.Rows L2
/-! ### how long a repr is at most -/
mutual
def cost : PyData → Nat
  | .none => 4
  | .bool _ => 5
  | .int _ => 1922
  | .str x => (reprText x).length
  | .list xs => costs xs + 4
  | .tuple xs => costs xs + 4
  | .dict _ => 0
def costs : List PyData → Nat
  | [] => 0
  | x :: r => cost x + 2 + costs r
end
theorem join_short (ts : List Str) : (Str.join ", " ts).length ≤ piled ts := by
  by_cases h : ts = []
  · subst h
    decide
  · have := join_length_add ts h
    omega
theorem list_short (ts : List Str) : (listText ts).length ≤ piled ts + 4 := by
  rw [listText_eq_join, strLen_append, strLen_append]
  have e1 : ((("[" : String) : Str)).length = 1 := rfl
  have e2 : ((("]" : String) : Str)).length = 1 := rfl
  have := join_short ts
  omega
theorem tuple_short (ts : List Str) : (tupleText ts).length ≤ piled ts + 4 := by
  unfold tupleText
  rw [strLen_append, strLen_append]
  have e1 : ((("(" : String) : Str)).length = 1 := rfl
  have e3 : (((if ts.length == 1 then ",)" else ")" : String) : Str)).length ≤ 2 := by split <;> decide
  have := join_short ts
  omega
mutual
theorem shown_short : ∀ d : PyData, d.showable = true → d.hasDict = false → d.shown.length ≤ cost d
  | .none, _, _ => by
    rw [PyData.shown, cost]
    decide
  | .bool b, _, _ => by
    rw [PyData.shown, cost]
    cases b <;> decide
  | .int i, h, _ => by
    rw [PyData.shown, cost]
    have h' : i.natAbs.log2 < 1920 := by simpa [PyData.showable] using h
    exact Nat.le_trans (int_text_len_1921 h') (by omega)
  | .str x, _, _ => by
    rw [PyData.shown, cost]
    exact Nat.le_refl _
  | .list xs, h, h2 => by
    rw [PyData.shown, cost]
    exact Nat.le_trans (list_short _) (Nat.add_le_add_right (showns_short xs (by simpa [PyData.showable] using h) (by simpa [PyData.hasDict] using h2)) 4)
  | .tuple xs, h, h2 => by
    rw [PyData.shown, cost]
    exact Nat.le_trans (tuple_short _) (Nat.add_le_add_right (showns_short xs (by simpa [PyData.showable] using h) (by simpa [PyData.hasDict] using h2)) 4)
  | .dict _, _, h2 => by simp [PyData.hasDict] at h2
theorem showns_short : ∀ xs : List PyData, PyData.showableAll xs = true → PyData.hasDictAll xs = false → piled (PyData.shownAll xs) ≤ costs xs
  | [], _, _ => by
    rw [PyData.shownAll, costs, piled_nil]
    omega
  | x :: r, h, h2 => by
    rw [PyData.shownAll, costs, piled_cons]
    simp only [PyData.showableAll, Bool.and_eq_true] at h
    simp only [PyData.hasDictAll, Bool.or_eq_false_iff] at h2
    have h3 := shown_short x h.1 h2.1
    have h4 := showns_short r h.2 h2.2
    omega
end
/-- data that repr shows -/
structure Shows (d : PyData) : Prop where
  able : d.showable = true
  nod : d.hasDict = false
  low : d.depth ≤ 60
  short : d.shown.length ≤ sizeLine
theorem shows_mk {d : PyData} (a : d.showable = true) (n : d.hasDict = false) (l : d.depth ≤ 60) (c : cost d ≤ 16000000) : Shows d :=
  ⟨a, n, l, Nat.le_trans (shown_short d a n) (Nat.le_trans c (by decide))⟩
theorem repr_go {K : PySem.W.Frag} {H : Hp} {v : V} {d : PyData} {Q : VK} (h : Dp K H v d) (s : Shows d) (q : Q (.str d.shown) H) : rRepr K [v] H Q := ⟨v, d, rfl, h, s.able, s.nod, s.low, s.short, q⟩
/-- ints of small size -/
theorem able_int {i : Int} (h : i.natAbs < 2 ^ 64) : PyData.showable (.int i) = true := by
  rw [PyData.showable]
  refine decide_eq_true ?_
  by_cases h0 : i.natAbs = 0
  · rw [h0]
    decide
  · exact Nat.lt_of_lt_of_le ((Nat.log2_lt h0).mpr h) (by decide)
theorem able_ints : ∀ {M : List Int}, (∀ x ∈ M, x.natAbs < 2 ^ 64) → PyData.showableAll (M.map PyData.int) = true
  | [], _ => by simp [PyData.showableAll]
  | x :: M, h => by
    rw [List.map_cons, PyData.showableAll, able_int (h x List.mem_cons_self), able_ints fun y hy => h y (List.mem_cons_of_mem _ hy)]
    rfl
theorem nod_ints : ∀ M : List Int, PyData.hasDictAll (M.map PyData.int) = false
  | [] => by simp [PyData.hasDictAll]
  | x :: M => by
    rw [List.map_cons, PyData.hasDictAll, nod_ints M, PyData.hasDict]
    rfl
theorem costs_ints : ∀ M : List Int, costs (M.map PyData.int) = 1924 * M.length
  | [] => by simp [costs]
  | x :: M => by
    rw [List.map_cons, costs, cost, costs_ints M, List.length_cons]
    omega
end Own

namespace Own
open PySem PySem.Spec PyProof.Rows L2

/-! ### enumerate(v) of anything that begins -/
section
set_option maxHeartbeats 4000000 in
theorem meets_enumerate_newB1 {v : Value} {o : Obj} {H : Heap → Prop} (B : Begins v o H) :
    Meets (Builtin.«enumerate.__new__» ⟨[.type "enumerate", v], []⟩) (fun _ R s => H s.heap ∧
      R (.ok (.ret (.ref (s.heap.push o).objs.size))) { s with heap := (s.heap.push o).push { cls := .type "enumerate", data := .fields #[.none, .bool false, .ref s.heap.objs.size, rawInt 0, .none, .none] } }) :=
  .of_wp fun prog w A R s h => by
    obtain ⟨hp, g, d, tk, os⟩ := s; obtain ⟨h1, h⟩ := h
    have hsub := sub_enumerate
    have q1 : ∀ {A' : Around} {E : Value → Shared → Prop} {Q : Value → Shared → Prop}, Q (.ref hp.objs.size) ⟨hp.push o, g, d, tk, os⟩ → wpAny (model prog w) A' (pyIter v) Q E ⟨hp, g, d, tk, os⟩ :=
      fun q => B.iter prog w _ _ ⟨hp, g, d, tk, os⟩ _ h1 q
    wp_walk using q1
    refine wpAny_stack_any fun st => wpAny_pure ?_
    split
    · rename_i c _ _ _ _ _
      cases (c == Value.type "enumerate")
      · wp_walk using q1
        exact ⟨_, rfl, h⟩
      · wp_walk using q1
        exact ⟨_, rfl, h⟩
    · wp_walk using q1
      exact ⟨_, rfl, h⟩
variable {prog : Program} {w : World} {A : Around} {E : Value → Shared → Prop} {s : Shared}
theorem enum_begins1 {v : Value} {o : Obj} {H : Heap → Prop} {Q : Value → Shared → Prop} (B : Begins v o H) (h1 : H s.heap)
    (h : ∀ h', IsEnum h' (s.heap.objs.size + 1) s.heap.objs.size 0 .none → h'.get? s.heap.objs.size = some o → h'.objs.size = s.heap.objs.size + 2 →
      (∀ b o, s.heap.get? b = some o → h'.get? b = some o) → Q (.ref (s.heap.objs.size + 1)) { s with heap := h' }) :
    wpAny (model prog w) A (call (.type "enumerate") [v]) Q E s := by
  refine callType_new F.called_enumerate (by decide) (F.typeCall_enumerate_1 _) (F.newCall_enumerate_1 _) (fun obj => F.args_object_init_2 obj _) F.entry_enumerate_new
    (meets_enumerate_newB1 B) ⟨h1, ?_⟩
  have hz : (s.heap.push o).objs.size = s.heap.objs.size + 1 := Heap.size_push ..
  show _ ∧ _
  rw [hz]
  have he : IsEnum ((s.heap.push o).push { cls := .type "enumerate", data := .fields #[.none, .bool false, .ref s.heap.objs.size, rawInt 0, .none, .none] }) (s.heap.objs.size + 1) s.heap.objs.size 0 .none := by
    have := Heap.get?_push_size (s.heap.push o) (o := { cls := .type "enumerate", data := .fields #[.none, .bool false, .ref s.heap.objs.size, rawInt 0, .none, .none] }) rfl
    rw [hz] at this; exact this
  refine ⟨⟨_, he, rfl⟩, h _ he (Heap.get?_push_of_some _ (Heap.get?_push_size _ B.free)) (by rw [Heap.size_push, hz]) fun b o x => Heap.get?_push_of_some _ (Heap.get?_push_of_some _ x)⟩
end
/-- the tuple at a, each item in a new pair -/
def IteT (K : PySem.W.Frag) (a : Addr) : It :=
  ⟨fun i H => ∃ (xs : List V) (x : V), SqT K H a xs ∧ xs[i]? = some x, fun i H v H' => ∃ T x, v = .ref T ∧ H T = none ∧ H' = upd H T (.tup [.int (i : Nat), x]) ∧ ∀ xs, SqT K H a xs → xs[i]? = some x, fun i H => ∃ xs : List V, SqT K H a xs ∧ xs.length ≤ i⟩
theorem turn_enumT {P : Program} {w : World} {K : PySem.W.Frag} {elts : List Expr} {kk : Nat} {tpos : Pos} (a e it : Addr) (hai : a ≠ it) (hea : e ≠ a) :
    Turn P w K (.Tuple elts kk tpos) (IteT K a) [e, it] e (fun i h => (∃ old, IsEnum h e it ((i : Nat) : Int) old) ∧ h.IsTupleIter it a i ∧ e ≠ it) where
  mem := by simp
  obj := fun i h st b hb => by
    obtain ⟨⟨old, he⟩, ⟨o, ho, hc, hd⟩, _⟩ := st
    have e' : b = e ∨ b = it := by simpa using hb
    rcases e' with z | z
    · rw [z]; exact ⟨_, he, fun v q => nomatch q⟩
    · rw [z]; exact ⟨o, ho, fun v q => by rw [hd] at q; cases q⟩
  keep := fun i h h' st k => let ⟨⟨old, he⟩, hi, hne⟩ := st; ⟨⟨old, k e (by simp) _ he⟩, hi.at fun o q => k it (by simp) o q, hne⟩
  item := by
    intro X hP hw hK hc i pins s σ H E I hf st hg
    subst hP hw hK
    obtain ⟨⟨old, he⟩, hit, hne⟩ := st
    obtain ⟨xs, x, hq, hx⟩ := hg
    obtain ⟨its, rv, p, hz⟩ := I.tuple hq
    obtain ⟨u, hu, ru⟩ := rv.get hx
    have hel : e < s.heap.objs.size := Heap.lt_size he
    have hil : it < s.heap.objs.size := by obtain ⟨_, q, _⟩ := hit; exact Heap.lt_size q
    have D := Draws.tuple (prog := X.prog) (w := X.w) (A := X.A.in1) (I.ok.hd hc) it a hai its.toArray
    have hil' : i < its.toArray.size := by
      rw [List.size_toArray]
      exact (List.getElem?_eq_some_iff.mp hu).1
    refine wpAny_pyNext_enum_itemD D he ⟨hit, show s.heap.IsTuple a its.toArray from p⟩ hil' hne (by simp [hne, hea]) fun x' h' tk hx' ho hit' hT hsz hk => ?_
    have exu : x' = u := by
      have q : its.toArray[i]? = some u := by simpa using hu
      rw [q] at hx'
      exact (Option.some.inj hx').symm
    subst exu
    refine ⟨_, rfl, wpAny_letOwnedTupleGo_enum (s := { s with heap := h', toks := tk + 1 }) ho fun h'' he' sb => ?_⟩
    have hT2 : h''.get? s.heap.objs.size = some { cls := .type "tuple", data := .seq #[.int i tk, x'] } := (sb.2 _ (Nat.ne_of_gt hel)).trans hT
    have new : ObjOk X.prog X.w (upd H s.heap.objs.size (.tup [.int (i : Nat), x])) h'' s.heap.objs.size (.tup [.int (i : Nat), x]) :=
      ⟨by show 2 ≤ sizeLine; decide, [.int i tk, x'], .cons ⟨_, rfl⟩ (.cons ru .nil), ⟨_, hT2, rfl, _, rfl⟩⟩
    have I1 : Inv X pins σ (upd H s.heap.objs.size (.tup [.int (i : Nat), x])) { s with heap := h'', toks := tk + 1 } :=
      I.turnedNew (ch := [e, it]) (fun b ob hb q => (sb.2 b (fun z => hb (by simp [z]))).trans (hk b ob (fun z => hb (by simp [z])) (fun z => hb (by simp [z])) q)) hf (Nat.le_refl _) new
    refine ⟨.ref s.heap.objs.size, _, I1, rfl, ⟨_, x, rfl, I.hok.fresh (Nat.le_refl _), rfl, fun ys hy => by rw [I.tuple_inj hy hq]; exact hx⟩, ⟨⟨x', ?_⟩, hit'.1.at fun o q => (sb.2 it (Ne.symm hne)).trans q, hne⟩, fun b hb => ?_⟩
    · have e1 : ((i + 1 : Nat) : Int) = (i : Int) + 1 := by omega
      rw [e1]; exact he'
    · have hb' : b < s.heap.objs.size := by
        have e' : b = e ∨ b = it := by simpa using hb
        rcases e' with z | z
        · rw [z]; exact hel
        · rw [z]; exact hil
      rw [upd_ne (Nat.ne_of_lt hb')]
      exact (hf b hb).1
  done := by
    intro X hP hw hK hc i pins s σ H E I hf st hg
    subst hP hw hK
    obtain ⟨⟨old, he⟩, hit, hne⟩ := st
    obtain ⟨xs, hq, hx⟩ := hg
    obtain ⟨its, rv, p, hz⟩ := I.tuple hq
    obtain ⟨f0, f1, f2, f3, f4, f5⟩ := hf it (by simp)
    have hl := rv.length
    have D : Draws X.prog X.w X.A.in1 it [it, a] 0 (fun i v => False) (fun _ h => h.IsTupleIter it a i ∧ h.IsTuple a its.toArray) :=
      { live := fun _ _ st => let ⟨o, ho, _⟩ := st.1; ⟨o, ho⟩
        frame := fun _ _ _ st hk => ⟨st.1.at fun o e => hk it (by simp) o e, st.2.at fun o e => hk a (by simp) o e⟩
        item := fun j s Q E hi st hQ => absurd hi (Nat.not_lt_zero _)
        done := fun s Q E st hE => wpAny_nextOf_tuple_end (I.ok.hd hc) st.1 st.2 (by simp; omega) hE }
    exact wpAny_pyNext_enum_endD (Q := _) D he ⟨hit, show s.heap.IsTuple a its.toArray from p⟩ fun h' eb => ⟨rfl, I.turned (t' := s.toks) (fun b o hb q => eb b o hb q) f0 f1 f3 f4 f5⟩
  self := fun A i s Q E st h => let ⟨⟨_, he⟩, _⟩ := st; wpAny_pyIter_enum he h
def iEnumT (K : PySem.W.Frag) (ta : TA) : TI := fun σ H R => ta σ H fun vs H1 => ∃ a xs, vs = [.ref a] ∧ SqT K H1 a xs ∧ R (IteT K a) H1
theorem pi_enumT {X : Cx} {e : Expr} {ta : TA} {p pos tpos : Pos} {elts : List Expr} {kk : Nat} (hg : Gl X "enumerate") (hm : X.mg "enumerate" = none) (ha : PA X [e] ta) (hs : starEach [e] X.env = [(false, eval e X.env)] := by rfl) :
    PI X (.Tuple elts kk tpos) (.Call (.Name "enumerate" p) [e] [] pos) (iEnumT X.K ta) := by
  refine ⟨fun pins s σ H R I h => ?_⟩
  refine Call_ (ld_blt I hg hm boot_enumerate (PyProof.Rows.callWith_type1 (thn (ha.run pos pins s σ H _ I h) fun us s1 ⟨vs, H1, I1, r1, q1⟩ => ?_) hs rfl))
  obtain ⟨a, xs, ex, hq, q⟩ := q1
  subst ex
  cases r1 with
  | cons r rr =>
    cases rr
    cases r
    obtain ⟨its, rv, p', hz⟩ := I1.tuple hq
    have hal : a < s1.heap.objs.size := by obtain ⟨_, z, _⟩ := p'; exact Heap.lt_size z
    refine enum_begins1 (begins_tuple a its.toArray) (show s1.heap.IsTuple a its.toArray from p') fun h' he hit hsz hk => wpAny_pyIter_enum he ?_
    have I2 : Inv X pins σ H1 { s1 with heap := h' } := I1.kept (t' := s1.toks) hk
    refine ⟨s1.heap.objs.size + 1, [s1.heap.objs.size + 1, s1.heap.objs.size], _, _, H1, rfl, I2, turn_enumT a (s1.heap.objs.size + 1) s1.heap.objs.size (Nat.ne_of_lt hal) (Nat.ne_of_gt (Nat.lt_succ_of_lt hal)), ⟨⟨.none, he⟩, ⟨_, hit, rfl, rfl⟩, Nat.succ_ne_self _⟩, fun b hb => ?_, q⟩
    have e' : b = s1.heap.objs.size + 1 ∨ b = s1.heap.objs.size := by simpa using hb
    have hle : s1.heap.objs.size ≤ b := by
      rcases e' with z | z
      · rw [z]; exact Nat.le_add_right _ _
      · rw [z]; exact Nat.le_refl _
    exact I1.fpOk hle (I1.hok.fresh hle)
theorem walk_enumT {K : PySem.W.Frag} {a : Addr} {xs : List V} : Walk (IteT K a) xs.length (fun H => SqT K H a xs) (YPair (fun i => some (.int (i : Nat))) (fun i => xs[i]?)) := by
  refine ⟨fun i _ hi q => ⟨xs, xs[i], q, by simp [hi]⟩, fun _ q => ⟨xs, q, Nat.le_refl _⟩, fun i H v H' _ q y => ?_⟩
  obtain ⟨T, x, h1, h2, h3, h4⟩ := y
  exact ⟨T, .int (i : Nat), x, h1, h2, h3, rfl, h4 xs q⟩

/-! ### sorted of bools -/
def bv : Value → Bool
  | .bool b => b
  | _ => false
def ltBv (v u : Value) : Bool := !bv v && bv u
theorem swo_bool : SrtO.Swo ltBv := by
  refine ⟨fun x y h => ?_, fun x y z h1 h2 => ?_⟩
  · unfold ltBv at *
    revert h
    cases bv x <;> cases bv y <;> simp
  · unfold ltBv at *
    revert h1 h2
    cases bv x <;> cases bv y <;> cases bv z <;> simp
theorem vals_bools : ∀ {bs : List Bool} {its : List Value}, Vals (bs.map V.bl) its → its = bs.map Value.bool
  | [], _, .nil => rfl
  | b :: bs, _, .cons r t => by
    cases r
    rw [vals_bools t]
    rfl
theorem bools_vals : ∀ bs : List Bool, Vals (bs.map V.bl) (bs.map Value.bool)
  | [] => .nil
  | b :: bs => .cons rfl (bools_vals bs)
section
variable {prog : Program} {w : World} {A : Around} {E : Value → Shared → Prop} {s : Shared}
theorem bool_cmp (bs : List Bool) : SrtO.Cmp prog w A s oneType' (fun p => p.1 ∈ bs.map Value.bool) (SrtO.lt2 ltBv) := by
  intro p q hm hm'
  obtain ⟨x, _, e⟩ := List.mem_map.mp hm
  obtain ⟨y, _, e'⟩ := List.mem_map.mp hm'
  show wpAny (model prog w) A (keyLt' oneType' p.1 q.1) (fun r s' => s' = s ∧ r = ltBv p.1 q.1) (fun _ _ => False) s
  rw [← e, ← e', keyLt'_oneType]
  refine PySem.W.oneLt_bool ⟨rfl, ?_⟩
  cases x <;> cases y <;> rfl
theorem bools_sortable {a : Addr} (bs : List Bool) (h2 : 2 ≤ (bs.map Value.bool).length) : SrtO.SortableO prog w A s a (bs.map Value.bool) ltBv := by
  intro h' _
  refine ⟨oneType', fun Q E hq => PySem.W.kas_kind (T := .type "bool") h2 (fun v hv => ?_) (by decide) (by decide) hq, bool_cmp bs⟩
  obtain ⟨x, _, rfl⟩ := List.mem_map.mp hv
  exact PySem.W.Looks.now
end
def rSortedB (K : PySem.W.Frag) : List V → Hp → VK → Prop := fun vs H Q => ∃ (a : Addr) (bs : List Bool), vs = [V.ref a] ∧ SqL K H a (bs.map V.bl) ∧
  ∀ (cs : List Bool) (p : Addr), cs.Perm bs → cs.Pairwise (fun x y => x = true → y = true) → H p = none → Q (.ref p) (upd H p (.lst (cs.map V.bl)))
theorem cr_sortedB {X : Cx} : CallR X (.builtin "sorted") (rSortedB X.K) := by
  intro pins s σ H vs us Q I r h
  obtain ⟨a, bs, rfl, hs, q⟩ := h
  obtain ⟨its, rv, hl, hz⟩ := I.list hs
  rw [Vals.ref1 r]
  have ei := vals_bools rv
  subst ei
  refine SrtO.sorted_ord swo_bool hl.isList (by rw [← rv.length]; exact hz) (fun h2 h₁ a' _ _ => bools_sortable bs h2) fun out h1 h2 => ?_
  have mem : ∀ v ∈ out, ∃ b, v = Value.bool b := fun v hv => by
    obtain ⟨x, _, e⟩ := List.mem_map.mp (h2.perm.mem_iff.mp hv)
    exact ⟨x, e.symm⟩
  have back : out = (out.map bv).map Value.bool := by
    rw [List.map_map]
    conv => lhs; rw [← List.map_id out]
    refine List.map_congr_left fun v hv => ?_
    obtain ⟨b, rfl⟩ := mem v hv
    rfl
  have hp : (out.map bv).Perm bs := by
    have z := h2.perm.map bv
    rw [List.map_map] at z
    have e : (bs.map (bv ∘ Value.bool)) = bs := by
      conv => rhs; rw [← List.map_id bs]
      exact List.map_congr_left fun b _ => rfl
    rw [e] at z
    exact z
  have hw : (out.map bv).Pairwise (fun x y => x = true → y = true) := by
    rw [List.pairwise_map]
    refine h1.imp fun {x y} h hx => ?_
    unfold ltBv at h
    revert h hx
    cases bv x <;> cases bv y <;> simp
  obtain ⟨ep, he'⟩ := PyProof.Rows.sortedAll_at s.heap (bs.map Value.bool) out.toArray
  have hlen : ((out.map bv).map V.bl).length ≤ sizeLine := by
    rw [List.length_map, hp.length_eq]
    rw [List.length_map] at hz
    exact hz
  have rv2 : Vals ((out.map bv).map V.bl) out := by
    have z := bools_vals (out.map bv)
    rw [← back] at z
    exact z
  exact ⟨.ref _, upd H (s.heap.objs.size + 1) (.lst ((out.map bv).map V.bl)), I.laid (t' := s.toks) (fun _ _ => PyProof.Rows.sortedAll_old) (Nat.le_succ _) ⟨hlen, out, ep, rv2, he'⟩, rfl, q _ _ hp hw (I.hok.fresh (Nat.le_succ _))⟩
/-! ### a target of several names within a block -/
theorem pg_tupK {X : Cx} {K : PySem.W.Frag} {es : List Expr} {k : Nat} {pos : Pos} {t : TGs} (n : Nat) (hK : X.K = K) (hc : X.calm = true) (h : PGs X es t)
    (hn : (assignEach es X.env).length = n := by rfl) (hst : (assignEach es X.env).findIdx? (·.1) = none := by rfl) : PG X (.Tuple es k pos) (gTup K n t) := by
  subst hK
  exact pg_tup hc h hn hst
end Own

namespace Own
open PySem PySem.Spec PyProof.Rows L2

/-! ### sorted(xs, key=f), f a def of the program, its keys whole numbers -/
/-- a heap without what lies at c -/
def hole (h : Heap) (c : Addr) : Heap := h.update c fun o => { o with data := .freed }
theorem hole_ne {h : Heap} {b c : Addr} (n : b ≠ c) : (hole h c).get? b = h.get? b := Heap.get?_update_ne _ _ _ _ n
theorem hole_at (h : Heap) (c : Addr) : (hole h c).get? c = none := by
  obtain ⟨objs, life⟩ := h
  show (match (objs.modify c fun o => { o with data := .freed })[c]? with
    | some ⟨_, _, .freed, _⟩ => none
    | o => o) = none
  rw [Array.getElem?_modify]
  cases objs[c]? with
  | none => simp
  | some o => simp
def rSortedF (K : PySem.W.Frag) (f : Addr) (sp : Sp) : List V → List V → Hp → VK → Prop := fun vs zs H Q => ∃ (a : Addr) (bs : List (V × Int)), vs = [V.ref a] ∧ zs = [V.ref f] ∧ SqL K H a (bs.map Prod.fst) ∧
  (∀ p ∈ bs, ∀ H1, Same H H1 → sp [p.1] H1 (fun v H2 => v = .int p.2 ∧ Same H1 H2) E0) ∧
  ∀ (q : Addr) (H1 : Hp), H q = none → H1 q = none → Same H H1 → Q (.ref q) (upd H1 q (.lst ((bs.mergeSort fun x y => decide (x.2 ≤ y.2)).map Prod.fst)))
theorem vals_each : ∀ {bs : List (V × Int)} {its : List Value}, Vals (bs.map Prod.fst) its → PySem.W.EachIs (fun v (p : V × Int) => L2.RelV p.1 v) its bs
  | [], _, .nil => .nil
  | _ :: _, _, .cons r t => .cons r (vals_each t)
theorem each_vals : ∀ {bs : List (V × Int)} {its : List Value}, PySem.W.EachIs (fun v (p : V × Int) => L2.RelV p.1 v) its bs → Vals (bs.map Prod.fst) its
  | _, _, .nil => .nil
  | _, _, .cons r t => .cons r (each_vals t)
theorem take_one {α : Type} {l : List α} {i : Nat} {x : α} (h : l[i]? = some x) : l.take (i + 1) = l.take i ++ [x] := by
  rw [List.take_succ, h]
  rfl
theorem each_more {R : Value → PyData → Prop} : ∀ {vs : List Value} {ds : List PyData} {v : Value} {d : PyData}, PySem.W.EachIs R vs ds → R v d → PySem.W.EachIs R (vs ++ [v]) (ds ++ [d])
  | _, _, _, _, .nil, h => .cons h .nil
  | _, _, _, _, .cons r t, h => .cons r (each_more t h)
section
variable {X : Cx} {k : Nat} {f : Addr} {fd : FuncData} {x : Str} {sp : Sp}
/-- the sort behind the list's being emptied -/
theorem keyed_rest (F : FnOk X.prog X.w X.K X.mg X.base CX0 k f fd [x] sp) (hr : Room (k + 2) X.A) (hb : Binds X.K fd [x] []) {pins : List (Addr × Obj)} {s : Shared} {σ : L2.St} {H : Hp} {d c : Addr} {ep : Nat} {bs : List (V × Int)} {its : List Value}
    {G : PySem.Fin → Shared → Prop} {E' : Value → Shared → Prop} (I : Inv X pins σ H s) (fc : ∀ H1 : Hp, H1 c = none → FpOk X pins H1 c) (fd' : ∀ H1 : Hp, H1 d = none → FpOk X pins H1 d) (hc : H c = none) (hd : H d = none)
    (oc : s.heap.get? c = some (seqObj "list" #[] 0)) (od : s.heap.get? d = some (seqObj "list" #[] ep)) (hcd : c ≠ d) (each : PySem.W.EachIs (fun v (p : V × Int) => L2.RelV p.1 v) its bs) (hzl : its.length ≤ sizeLine)
    (turn : ∀ p ∈ bs, ∀ H1, Same H H1 → sp [p.1] H1 (fun v H2 => v = .int p.2 ∧ Same H1 H2) E0)
    (done : ∀ (s' : Shared) (H1 : Hp), Same H H1 → H1 d = none → Inv X pins σ (upd H1 d (.lst ((bs.mergeSort fun x y => decide (x.2 ≤ y.2)).map Prod.fst))) s' → G (.done (.ret .none)) s') :
    wpAny (model X.prog X.w) X.A.in1.in1 (PyProof.Rows.ksk_rest d (.ref f) false its.toArray ep (.ref c)) G E' s := by
  have hlen := each.length
  have ncs : c ∉ X.fs := (fc H hc).2.2.1
  have nds : d ∉ X.fs := (fd' H hd).2.2.1
  unfold PyProof.Rows.ksk_rest
  refine wpAny_bind (wpAny_rule ?_)
  rw [List.forIn_toArray]
  refine wpAny_bind (PyProof.Rows.ksk_fold (fun j s' => ∃ (H1 : Hp) (kA : Array Value) (n : Nat), Inv X pins σ H1 s' ∧ Same H H1 ∧ H1 c = none ∧ H1 d = none ∧ s'.heap.get? c = some (seqObj "list" kA n) ∧ s'.heap.get? d = some (seqObj "list" #[] ep) ∧
    PySem.W.EachIs (fun v (n : PyData) => ∃ i t, v = Value.int i t ∧ n = .int i) kA.toList ((bs.take j).map fun p => PyData.int p.2)) its 0 s ⟨H, #[], 0, I, Same.refl H, hc, hd, oc, od, .nil⟩ ?_ ?_)
  · rintro j v s' hv ⟨H1, kA, n, I1, e1, c1, d1, oc1, od1, ks⟩
    rw [Nat.zero_add] at ks ⊢
    have hj : j < bs.length := by rw [← hlen]; exact (List.getElem?_eq_some_iff.mp hv).1
    obtain ⟨p, hp⟩ : ∃ p, bs[j]? = some p := ⟨_, List.getElem?_eq_getElem hj⟩
    have rp : L2.RelV p.1 v := each.zip (v, p) (List.mem_of_getElem? (i := j) (by rw [List.getElem?_zip_eq_some]; exact ⟨hv, hp⟩))
    have kl : kA.size = j := by
      have z := ks.length
      rw [Array.length_toList, List.length_map, List.length_take] at z
      omega
    have b := hb s' [v] I1.kIn rfl
    rw [List.append_nil] at b
    refine wpAny_bind (wpAny_attempt (wpAny_call (codeAny_mono (F.run X.A.in1.in1 X.stack s' H1 ⟨[v], []⟩ [v] [p.1] _ E0 hr.in1.in1 I1.env0.in1.in1 b (.cons rp .nil) (turn p (List.mem_of_getElem? hp) H1 e1)) fun res s2 hq => ?_)))
    match res, hq with
    | .ok .next, hq => exact hq.elim
    | .ok .brk, hq => exact hq.elim
    | .ok .cont, hq => exact hq.elim
    | .error _, hq => exact hq.elim
    | .ok (.ret u), hq =>
      obtain ⟨y, H2, os, bare, un, hok, ry, ey, e2⟩ := hq
      subst ey
      obtain ⟨t, rfl⟩ : ∃ t, u = Value.int p.2 t := ry
      have I2 : Inv X pins σ H2 s2 := I1.call' os un hok bare fun b z => absurd z (by simp)
      have off : ∀ b, b ≠ X.env.locals → b ∉ X.fs → b ∉ frs X.stack := fun b n1 n2 z => (List.mem_cons.mp (I1.stkSub b z)).elim n1 n2
      have oc2 := un.keep c _ oc1 c1 (off c (fc H hc).2.1 ncs) (by simp)
      have od2 := un.keep d _ od1 d1 (off d (fd' H hd).2.1 nds) (by simp)
      have c2 := un.free c _ oc1 c1 (by simp)
      have d2 := un.free d _ od1 d1 (by simp)
      obtain ⟨m, oc3⟩ : ∃ m, (s2.heap.update c (Obj.mapSeq (·.push (.int p.2 t)))).get? c = some (seqObj "list" (kA.push (.int p.2 t)) m) := ⟨_, get?_update_seq oc2 (·.push (.int p.2 t))⟩
      have jz : kA.size ≤ sizeLine := by rw [kl]; exact Nat.le_trans (Nat.le_of_lt hj) (by rw [← hlen]; exact hzl)
      refine wpAny_bind (listUpdate_at oc2 rfl (wpAny_pure ⟨rfl, H2, kA.push (.int p.2 t), m, ?_, e1.trans e2, c2, d2, oc3, (Heap.get?_update_ne _ _ _ _ hcd.symm).trans od2, ?_⟩) jz (by rw [Array.size_push]; exact Nat.succ_le_succ jz))
      · exact I2.turnedL (t' := s2.toks) (ch := [c]) (fun b o nb z => (Heap.get?_update_ne _ _ _ _ (fun w => nb (by simp [w]))).trans z) fun b mb => by
          rw [List.mem_singleton.mp mb]
          exact fc H2 c2
      · rw [take_one hp, List.map_append, Array.toList_push]
        exact each_more ks ⟨_, _, rfl, rfl⟩
  · rintro s' ⟨H1, kA, n, I1, e1, c1, d1, oc1, od1, ks⟩
    rw [Nat.zero_add, hlen, List.take_length] at ks
    have kl : kA.size = its.length := by
      have z := ks.length
      rw [Array.length_toList, List.length_map] at z
      omega
    refine wpAny_bind (listItems_at oc1 rfl ?_)
    have rd : PySem.W.EachIs (fun v n => ∃ as, Reads s'.heap v n as) kA.toList (bs.map fun p => PyData.int p.2) := ks.mono fun v n ⟨i, t, e1, e2⟩ => by
      subst e1
      subst e2
      exact ⟨[], .int i t⟩
    have al : PySem.W.AllAlike (bs.map fun p => PyData.int p.2) := fun x hx y hy => by
      obtain ⟨p, _, rfl⟩ := List.mem_map.mp hx
      obtain ⟨q, _, rfl⟩ := List.mem_map.mp hy
      rfl
    have so : PySem.W.Sortable (bs.map fun p => PyData.int p.2) := .inr fun x hx => by
      obtain ⟨p, _, rfl⟩ := List.mem_map.mp hx
      exact ⟨fun z => (nomatch z), fun _ z => (nomatch z)⟩
    have rm := hr.un
    have S := PySem.W.SortsAt.data (prog := X.prog) (w := X.w) (A := X.A.in1.in1) (s := s') rd al so fun x hx => by
      obtain ⟨p, _, rfl⟩ := List.mem_map.mp hx
      show X.A.units + 1 + 1 + (PyData.int p.2).depth < cLine
      rw [PyData.depth]
      omega
    refine PySem.W.keyH_end (h₁ := hole s'.heap c) (fun b o nb z => ?_) (hole_at _ _) oc1 od1 hcd S kl hzl fun h2 tk m kp od2 => ?_
    · have bc : b ≠ c := fun w => by
        rw [w, hole_at] at z
        cases z
      exact (hole_ne bc).symm.trans z
    · have J : Inv X pins σ H1 { s' with heap := h2, toks := tk } := I1.turnedL (ch := [c, d]) (fun b o nb z => kp b o (fun w => nb (by simp [w])) ((hole_ne fun w => nb (by simp [w])).trans z)) fun b mb => by
        rcases List.mem_cons.mp mb with w | w
        · rw [w]
          exact fc H1 c1
        · rw [List.mem_singleton.mp w]
          exact fd' H1 d1
      have ko : PySem.W.KeyedOut false (bs.map fun p => PyData.int p.2) its (PySem.W.sortVals (PySem.W.dataKind s'.heap (bs.map fun p => PyData.int p.2)) false kA.toList its) := ⟨_, _, al, rfl, rd⟩
      have out := PySem.W.keyedOut_each (fun p : V × Int => PyData.int p.2) ko each
      rw [PySem.W.dataLe_int] at out
      have rv := each_vals out
      refine done _ H1 e1 d1 (J.take (h' := h2) (t' := tk) (fun b ob _ z => z) (fd' H1 d1) ⟨?_, _, m, rv, od2⟩)
      rw [rv.length, PySem.W.sortVals_length _ (by rw [Array.length_toList]; exact kl)]
      exact hzl
theorem cr_sortedF (F : FnOk X.prog X.w X.K X.mg X.base CX0 k f fd [x] sp) (hr : Room (k + 2) X.A) (hb : Binds X.K fd [x] []) : CallRK X (.builtin "sorted") [Str.ofString "key"] (rSortedF X.K f sp) := by
  intro pins s σ H vs zs us ws Q I r rz h
  obtain ⟨a, bs, rfl, rfl, hs, turn, q⟩ := h
  obtain ⟨its, rv, hl, hz⟩ := I.list hs
  rw [Vals.ref1 r]
  obtain ⟨w1, rfl, e1⟩ := vals1 rz
  obtain rfl : w1 = Value.ref f := e1
  have hlen : its.length = bs.length := by rw [← rv.length, List.length_map]
  have hzl : its.length ≤ sizeLine := by rw [← rv.length]; exact hz
  refine PySem.W.sorted_of_sort hl.isList hzl (PyProof.Rows.ksk_s1 _ _) (fun _ => PyProof.Rows.ksk_l1 _ _) fun E' => ?_
  have way : Builtin.«list.sort» ⟨[.ref (s.heap.objs.size + 1)], [Str.ofString "key"].zip [Value.ref f]⟩ = PyProof.Rows.ksk_tree (s.heap.objs.size + 1) (.ref f) false := PyProof.Rows.ksk_t1 _ _
  rw [way]
  generalize hd : s.heap.objs.size + 1 = d
  have sd : s.heap.objs.size ≤ d := by rw [← hd]; exact Nat.le_succ _
  have od : (PySem.W.copyHeap s.heap its).get? d = some (seqObj "list" its.toArray 0) := by rw [← hd]; exact PySem.W.copyHeap_at _ _
  have ld : d < (PySem.W.copyHeap s.heap its).objs.size := Heap.lt_size od
  obtain ⟨ep, oe⟩ : ∃ e, ((PySem.W.copyHeap s.heap its).update d (Obj.mapSeq fun _ => (#[] : Array Value))).get? d = some (seqObj "list" #[] e) := ⟨_, get?_update_seq od fun _ => #[]⟩
  unfold PyProof.Rows.ksk_tree
  refine wpAny_bind (listItems_at od rfl (wpAny_bind (listUpdate_at od rfl (wpAny_bind (seqEpoch_at oe rfl (wpAny_bind (wpAny_newTuple (wpAny_bind (wpAny_newList (wpAny_holding ?_) (Nat.zero_le _))) hzl)))) (by rw [List.size_toArray]; exact hzl) (Nat.zero_le _))))
  have on : ∀ b o, s.heap.get? b = some o → (PySem.W.sortingHeap (PySem.W.copyHeap s.heap its) d its).get? b = some o := fun b o z => PySem.W.sortingHeap_old (by rw [← hd]; exact Nat.ne_of_lt (Nat.lt_succ_of_lt (Heap.lt_size z))) (PySem.W.copyHeap_old z)
  have I1 : Inv X pins σ H { s with heap := PySem.W.sortingHeap (PySem.W.copyHeap s.heap its) d its } := I.kept (t' := s.toks) on
  have hc : (((PySem.W.copyHeap s.heap its).update d (Obj.mapSeq fun _ => (#[] : Array Value))).push (seqObj "tuple" its.toArray 0)).objs.size = (PySem.W.copyHeap s.heap its).objs.size + 1 := by rw [size_push', Heap.size_update]
  have sc : s.heap.objs.size ≤ (PySem.W.copyHeap s.heap its).objs.size + 1 := by omega
  show wpAny (model X.prog X.w) X.A.in1.in1 (PyProof.Rows.ksk_rest d (.ref f) false its.toArray ep (.ref (((PySem.W.copyHeap s.heap its).update d (Obj.mapSeq fun _ => (#[] : Array Value))).push (seqObj "tuple" its.toArray 0)).objs.size)) _ E' { s with heap := PySem.W.sortingHeap (PySem.W.copyHeap s.heap its) d its }
  refine keyed_rest F hr hb I1 (fun H1 z => I.fpOk (by rw [hc]; exact sc) z) (fun H1 z => I.fpOk sd z) (I.hok.fresh (by rw [hc]; exact sc)) (I.hok.fresh sd) (Heap.get?_push_size _ rfl) (Heap.get?_push_of_some _ (Heap.get?_push_of_some _ oe)) (by rw [hc]; exact Nat.ne_of_gt (Nat.lt_succ_of_lt ld)) (vals_each rv) hzl turn fun s' H1 e1 d1 I2 => ⟨rfl, .ref d, _, I2, rfl, q d H1 (I.hok.fresh sd) d1 e1⟩
end
end Own

namespace Own
open PySem PySem.Spec PyProof.Rows L2
open AutoSeq1 (wpAny_loadPart')

/-! ### xs.extend(t), t a tuple -/
theorem extend_by_tuple (l : Addr) (xs : Array Value) (e : Nat) (b : Addr) (ys : Array Value) (e2 : Nat) (dc : Option Addr) (sl : Array (Option Value))
    (short : ¬(!xs.isEmpty && Builtin.List.listTooLong (xs.size + ys.size)) = true) (fits : xs.size ≤ sizeLine) (fits2 : xs.size + ys.size ≤ sizeLine + 1) :
    Meets (Builtin.«list.extend» ⟨[.ref l, .ref b], []⟩) (fun _ R s => s.heap.get? l = some { cls := .type "list", data := .seq xs e } ∧
      s.heap.get? b = some { cls := .type "tuple", dict := dc, data := .seq ys e2, slots := sl } ∧
      R (.ok (.ret Value.none)) { s with heap := s.heap.update l (Obj.mapSeq fun z => z ++ ys) }) := by
  refine .of_wp fun prog w A R s h => ?_
  obtain ⟨heap, gens, drawn, toks, os⟩ := s
  obtain ⟨atl, atb, goal⟩ := h
  have k1 := PySem.AutoSeq1.idx_int
  have k2 := PySem.AutoSeq1.sub_tuple_tuple
  have k3 := PySem.AutoSeq1.sub_list_list
  have k4 := PySem.AutoSeq1.sub_tuple_list
  have k5 := PySem.AutoSeq1.sub_list_tuple
  have k6 : (xs ++ ys).size ≤ sizeLine + 1 := by rw [Array.size_append]; exact fits2
  wp_walk using (wpAny_updateSeq atl rfl (hz := fits) (_hz' := k6)), wpAny_loadPart' atl, wpAny_loadPart' atb
  exact ⟨_, rfl, goal⟩
def rExtendT (K : PySem.W.Frag) : V → List V → Hp → VK → Prop := fun x vs H Q => ∃ l b xs zs, x = .ref l ∧ vs = [.ref b] ∧ H l = some (.lst xs) ∧ SqT K H b zs ∧ xs.length + zs.length ≤ sizeLine ∧ Q .non (upd H l (.lst (xs ++ zs)))
theorem mt_extendT {X : Cx} : MtM X "list.extend" (rExtendT X.K) := by
  intro pins s σ H x vs v us Q I rx rv h
  obtain ⟨l, b, xs, zs, rfl, rfl, hl, hb, hz, q⟩ := h
  cases rx
  obtain ⟨u, rfl, ru⟩ := rv.one
  cases ru
  obtain ⟨_, its, n, r, hln, e⟩ := I.lstM hl
  obtain ⟨its2, r2, ⟨⟨c, dc, dt, sl⟩, e2, hc, n2, hd⟩, _⟩ := I.tuple hb
  have hc' : c = .type "tuple" := hc
  have hd' : dt = .seq its2.toArray n2 := hd
  subst hc' hd'
  have l2 := r2.length
  have sz : its.toArray.size + its2.toArray.size ≤ sizeLine := by rw [List.size_toArray, List.size_toArray]; omega
  have no : ¬ (!its.toArray.isEmpty && Builtin.List.listTooLong (its.toArray.size + its2.toArray.size)) = true := by
    rw [notLongL sz, Bool.and_false]
    exact Bool.false_ne_true
  refine call_meets F.slot_list_extend ⟨_, e, rfl⟩ F.entry_list_extend (F.args_list_extend_2 _ _) (extend_by_tuple l _ n b _ n2 dc sl no (by omega) (by omega)) ⟨e, e2, ?_⟩
  refine ⟨.non, _, I.lset (its' := its ++ its2) hl e (by simp) (r.append r2) ?_, rfl, q⟩
  rw [List.length_append]
  exact hz
end Own

namespace Own
open PySem PySem.Spec PyProof.Rows L2

/-! ### lots by numbers -/
def lotOf (row : List Int) (m : Nat) : List Int := (row.zipIdx.filter fun x => m.testBit x.2).map Prod.fst
theorem zip_take {row : List Int} {i : Nat} {z : Int} (h : row[i]? = some z) : (row.take (i + 1)).zipIdx = (row.take i).zipIdx ++ [(z, i)] := by
  rw [take_snoc h, List.zipIdx_append]
  have : (row.take i).length = i := by
    rw [List.length_take]
    have := (List.getElem?_eq_some_iff.mp h).1
    omega
  rw [this]
  simp [List.zipIdx]
theorem lot_snoc {row : List Int} {i : Nat} {z : Int} (m : Nat) (h : row[i]? = some z) : lotOf (row.take (i + 1)) m = lotOf (row.take i) m ++ (if m.testBit i = true then [z] else []) := by
  unfold lotOf
  rw [zip_take h, List.filter_append, List.map_append]
  simp only [List.filter_cons, List.filter_nil]
  cases m.testBit i <;> rfl
theorem lot_len (row : List Int) (m : Nat) : (lotOf row m).length ≤ row.length := by
  unfold lotOf
  rw [List.length_map]
  refine Nat.le_trans (List.length_filter_le _ _) ?_
  rw [List.length_zipIdx]
  exact Nat.le_refl _
theorem mem_lot {row : List Int} {m p : Nat} {z : Int} (hn : row.Nodup) (h : row[p]? = some z) : z ∈ lotOf row m ↔ m.testBit p = true := by
  unfold lotOf
  rw [List.mem_map]
  constructor
  · rintro ⟨⟨y, q⟩, hy, rfl⟩
    rw [List.mem_filter] at hy
    have hq := List.mem_zipIdx_iff_getElem?.mp hy.1
    have : p = q := by
      obtain ⟨h1, e1⟩ := List.getElem?_eq_some_iff.mp h
      obtain ⟨h2, e2⟩ := List.getElem?_eq_some_iff.mp hq
      exact (List.getElem_inj hn).mp (e1.trans e2.symm)
    rw [this]
    exact hy.2
  · intro hb
    exact ⟨(z, p), List.mem_filter.mpr ⟨List.mem_zipIdx_iff_getElem?.mpr h, hb⟩, rfl⟩
theorem lot_sub {row : List Int} {m : Nat} {z : Int} (h : z ∈ lotOf row m) : z ∈ row := by
  unfold lotOf at h
  obtain ⟨⟨y, q⟩, hy, rfl⟩ := List.mem_map.mp h
  exact List.mem_of_getElem? (List.mem_zipIdx_iff_getElem?.mp (List.mem_filter.mp hy).1)

/-! ### the mark of a place -/
/-- what has bit m just for the m below 2 ^ f that have bit p -/
structure Mark (p f N : Nat) : Prop where
  bit : ∀ m, N.testBit m = (decide (m < 2 ^ f) && m.testBit p)
theorem bit_low {m p : Nat} (h0 : 2 ^ p ≤ m) (h1 : m < 2 ^ (p + 1)) : m.testBit p = true := by
  rw [Nat.testBit_eq_decide_div_mod_eq]
  have : m / 2 ^ p = 1 := by
    have hp : 0 < 2 ^ p := Nat.two_pow_pos p
    have e : 2 ^ (p + 1) = 2 * 2 ^ p := by rw [Nat.pow_succ]; omega
    have a : 1 ≤ m / 2 ^ p := (Nat.le_div_iff_mul_le hp).mpr (by omega)
    have b : m / 2 ^ p < 2 := (Nat.div_lt_iff_lt_mul hp).mpr (by omega)
    omega
  rw [this]
  rfl
theorem bit_less {m p : Nat} (h : m < 2 ^ p) : m.testBit p = false := Nat.testBit_lt_two_pow h
theorem mark_first (p : Nat) : Mark p (p + 1) ((2 ^ 2 ^ p - 1) * 2 ^ 2 ^ p) := by
  refine ⟨fun m => ?_⟩
  rw [← Nat.shiftLeft_eq, Nat.testBit_shiftLeft, Nat.testBit_two_pow_sub_one]
  have e : 2 ^ (p + 1) = 2 * 2 ^ p := by rw [Nat.pow_succ]; omega
  by_cases h0 : 2 ^ p ≤ m
  · by_cases h1 : m < 2 ^ (p + 1)
    · rw [bit_low h0 h1]
      simp [h0, h1]
      omega
    · have : ¬ m - 2 ^ p < 2 ^ p := by omega
      simp [h1, this]
  · rw [bit_less (by omega)]
    simp [h0]
theorem bit_off {m f p : Nat} (hp : p < f) (h0 : 2 ^ f ≤ m) (h1 : m < 2 ^ (f + 1)) : (m - 2 ^ f).testBit p = m.testBit p := by
  have e : 2 ^ (f + 1) = 2 * 2 ^ f := by rw [Nat.pow_succ]; omega
  obtain ⟨d, hd⟩ : ∃ d, m = 2 ^ f + d := ⟨m - 2 ^ f, by omega⟩
  subst hd
  have h : 2 ^ f + d - 2 ^ f = d := by omega
  rw [h, Nat.testBit_two_pow_add_gt hp]
theorem mark_more {p f N : Nat} (h : Mark p f N) (hp : p < f) : Mark p (f + 1) (N ||| N * 2 ^ 2 ^ f) := by
  refine ⟨fun m => ?_⟩
  rw [Nat.testBit_or, ← Nat.shiftLeft_eq, Nat.testBit_shiftLeft, h.bit, h.bit]
  have e : 2 ^ (f + 1) = 2 * 2 ^ f := by rw [Nat.pow_succ]; omega
  by_cases h0 : 2 ^ f ≤ m
  · by_cases h1 : m < 2 ^ (f + 1)
    · have a : ¬ m < 2 ^ f := by omega
      have b : m - 2 ^ f < 2 ^ f := by omega
      rw [bit_off hp h0 h1]
      simp [h0, h1, a, b]
    · have a : ¬ m < 2 ^ f := by omega
      have b : ¬ m - 2 ^ f < 2 ^ f := by omega
      simp [h1, a, b]
  · have a : m < 2 ^ f := by omega
    have b : m < 2 ^ (f + 1) := by omega
    simp [h0, a, b]
theorem mark_lt {p f N : Nat} (h : Mark p f N) : N < 2 ^ 2 ^ f := by
  apply Nat.lt_pow_two_of_testBit
  intro i hi
  rw [h.bit]
  have : ¬ i < 2 ^ f := by omega
  simp [this]
/-! masks of lots -/
/-- what has bit m just for the m below 2 ^ n of which P holds -/
structure Mask (n : Nat) (P : Nat → Bool) (N : Nat) : Prop where
  bit : ∀ m, N.testBit m = (decide (m < 2 ^ n) && P m)
theorem Mark.mask {p n N : Nat} {row : List Int} {z : Int} (h : Mark p n N) (hn : row.Nodup) (hz : row[p]? = some z) : Mask n (fun m => decide (z ∈ lotOf row m)) N := by
  refine ⟨fun m => ?_⟩
  rw [h.bit]
  congr 1
  by_cases hb : m.testBit p = true
  · rw [hb, decide_eq_true ((mem_lot hn hz).mpr hb)]
  · rw [decide_eq_false fun q => hb ((mem_lot hn hz).mp q)]
    simpa using hb
theorem mask_zero {n : Nat} {P : Nat → Bool} (h : ∀ m, P m = false) : Mask n P 0 := ⟨fun m => by rw [h]; simp⟩
theorem mask_all (n : Nat) {P : Nat → Bool} (h : ∀ m, P m = true) : Mask n P (2 ^ 2 ^ n - 1) := ⟨fun m => by rw [h, Nat.testBit_two_pow_sub_one]; simp⟩
theorem Mask.or {n : Nat} {P Q : Nat → Bool} {M N : Nat} (h : Mask n P M) (k : Mask n Q N) : Mask n (fun m => P m || Q m) (M ||| N) := ⟨fun m => by
  rw [Nat.testBit_or, h.bit, k.bit]
  cases decide (m < 2 ^ n) <;> simp⟩
theorem Mask.and {n : Nat} {P Q : Nat → Bool} {M N : Nat} (h : Mask n P M) (k : Mask n Q N) : Mask n (fun m => P m && Q m) (M &&& N) := ⟨fun m => by
  rw [Nat.testBit_and, h.bit, k.bit]
  cases decide (m < 2 ^ n) <;> simp⟩
theorem Mask.congr {n : Nat} {P Q : Nat → Bool} {N : Nat} (h : Mask n P N) (e : ∀ m, P m = Q m) : Mask n Q N := ⟨fun m => by rw [h.bit, e]⟩
theorem bits_of {N k : Nat} (h : N < 2 ^ k) : Builtin.Int.intBits (N : Int) ≤ k := by
  unfold Builtin.Int.intBits
  by_cases h0 : N = 0
  · subst h0
    simp
  · have : N.log2 < k := (Nat.log2_lt h0).mpr h
    split <;> simp_all <;> omega
theorem bitOr_nat (a b : Nat) : Builtin.bitOr (a : Int) (b : Int) = ((a ||| b : Nat) : Int) := by
  rw [Bits.bitOr_pp (Int.natCast_nonneg _) (Int.natCast_nonneg _), Int.toNat_natCast, Int.toNat_natCast]
theorem bitAnd_nat (a b : Nat) : Builtin.bitAnd (a : Int) (b : Int) = ((a &&& b : Nat) : Int) := rfl
theorem pow_nat (k : Nat) : (2 : Int) ^ k = ((2 ^ k : Nat) : Int) := by
  rw [Int.natCast_pow]
  rfl
/-- bit m of a natural number, as Python asks for it -/
theorem ask_bit (N m : Nat) : decide (V.int (Builtin.bitAnd ((N : Int) / 2 ^ m) 1) = V.int 1) = N.testBit m := by
  have e : ((N : Int) / 2 ^ m) = ((N / 2 ^ m : Nat) : Int) := by
    rw [pow_nat, Int.natCast_ediv]
  rw [e]
  have e2 : Builtin.bitAnd ((N / 2 ^ m : Nat) : Int) 1 = ((N / 2 ^ m &&& 1 : Nat) : Int) := rfl
  rw [e2, Nat.and_one_is_mod, Nat.testBit_eq_decide_div_mod_eq]
  by_cases h : N / 2 ^ m % 2 = 1
  · rw [decide_eq_true h]
    exact decide_eq_true (by rw [h]; rfl)
  · rw [decide_eq_false h]
    refine decide_eq_false fun q => h ?_
    have := V.int.inj q
    omega
end Own

namespace Own
open PySem PySem.Spec PyProof.Rows L2

/-! ### sound trees -/
mutual
def Tr.ok : Tr → Prop
  | .b _ => True
  | .t k ps => 1 ≤ k ∧ k ≤ ps.length ∧ Tr.oks ps
def Tr.oks : List Tr → Prop
  | [] => True
  | p :: r => p.ok ∧ Tr.oks r
end
theorem oks_all : ∀ {ps : List Tr}, Tr.oks ps ↔ ∀ p ∈ ps, p.ok
  | [] => by simp [Tr.oks]
  | p :: r => by simp [Tr.oks, oks_all (ps := r)]
theorem helds_eq : ∀ ps : List Tr, Tr.helds ps = ps.flatMap Tr.held
  | [] => by simp [Tr.helds]
  | p :: r => by simp [Tr.helds, helds_eq r]
theorem deeps_le {n : Nat} : ∀ {ps : List Tr}, Tr.deeps ps ≤ n ↔ ∀ p ∈ ps, p.deep ≤ n
  | [] => by simp [Tr.deeps]
  | p :: r => by
    rw [Tr.deeps, Nat.max_le, deeps_le (ps := r)]
    simp
mutual
theorem ok_pos : ∀ t : Tr, t.ok → 1 ≤ t.held.length
  | .b _, _ => by rw [Tr.held]; exact Nat.le_refl _
  | .t k ps, h => by
    rw [Tr.ok] at h
    rw [Tr.held]
    have := oks_pos ps h.2.2
    omega
theorem oks_pos : ∀ ps : List Tr, Tr.oks ps → ps.length ≤ (Tr.helds ps).length
  | [], _ => by rw [Tr.helds]; exact Nat.le_refl _
  | p :: r, h => by
    rw [Tr.oks] at h
    have h1 := ok_pos p h.1
    have h2 := oks_pos r h.2
    rw [Tr.helds, List.length_append, List.length_cons]
    omega
end
/-! ### the least button ahead, as the code looks for it -/
mutual
def Tr.least : Tr → Int
  | .b i => i
  | .t _ ps => Tr.leasts ps
def Tr.leasts : List Tr → Int
  | [] => 0
  | p :: _ => p.least
end
/-! ### contrary trees -/
mutual
def con : Tr → Tr
  | .b i => .b i
  | .t k ps => .t ((ps.length : Int) - k + 1) (cons ps)
def cons : List Tr → List Tr
  | [] => []
  | p :: r => con p :: cons r
end
theorem cons_eq : ∀ ps : List Tr, cons ps = ps.map con
  | [] => by rw [cons]; rfl
  | p :: r => by rw [cons, cons_eq r]; rfl
theorem cons_len (ps : List Tr) : (cons ps).length = ps.length := by rw [cons_eq, List.length_map]
mutual
theorem con_con : ∀ t : Tr, con (con t) = t
  | .b i => by rw [con, con]
  | .t k ps => by
    rw [con, con, cons_len, cons_cons ps]
    congr 1
    omega
theorem cons_cons : ∀ ps : List Tr, cons (cons ps) = ps
  | [] => by rw [cons, cons]
  | p :: r => by rw [cons, cons, con_con p, cons_cons r]
end
mutual
theorem con_held : ∀ t : Tr, (con t).held = t.held
  | .b i => by rw [con]
  | .t k ps => by rw [con, Tr.held, Tr.held, cons_helds ps]
theorem cons_helds : ∀ ps : List Tr, Tr.helds (cons ps) = Tr.helds ps
  | [] => by rw [cons]
  | p :: r => by rw [cons, Tr.helds, Tr.helds, con_held p, cons_helds r]
end
mutual
theorem con_deep : ∀ t : Tr, (con t).deep = t.deep
  | .b i => by rw [con]
  | .t k ps => by rw [con, Tr.deep, Tr.deep, cons_deeps ps]
theorem cons_deeps : ∀ ps : List Tr, Tr.deeps (cons ps) = Tr.deeps ps
  | [] => by rw [cons]
  | p :: r => by rw [cons, Tr.deeps, Tr.deeps, con_deep p, cons_deeps r]
end
mutual
theorem con_ok : ∀ t : Tr, t.ok → (con t).ok
  | .b i, _ => by rw [con, Tr.ok]; trivial
  | .t k ps, h => by
    rw [Tr.ok] at h
    rw [con, Tr.ok, cons_len]
    exact ⟨by omega, by omega, cons_oks ps h.2.2⟩
theorem cons_oks : ∀ ps : List Tr, Tr.oks ps → Tr.oks (cons ps)
  | [], _ => by rw [cons, Tr.oks]; trivial
  | p :: r, h => by
    rw [Tr.oks] at h
    rw [cons, Tr.oks]
    exact ⟨con_ok p h.1, cons_oks r h.2⟩
end
mutual
theorem con_least : ∀ t : Tr, (con t).least = t.least
  | .b i => by rw [con]
  | .t k ps => by rw [con, Tr.least, Tr.least, cons_leasts ps]
theorem cons_leasts : ∀ ps : List Tr, Tr.leasts (cons ps) = Tr.leasts ps
  | [] => by rw [cons]
  | p :: r => by rw [cons, Tr.leasts, Tr.leasts, con_least p]
end
theorem con_trip (t : Tr) : (con t).isTrip = t.isTrip := by
  cases t with
  | b i => rw [con]
  | t k ps => rw [con]; rfl
/-! it goes with a lot just if the tree fails with all buttons that aren't in it -/
mutual
theorem go_con {L M : List Int} : ∀ t : Tr, (∀ x ∈ t.held, x ∈ L ↔ x ∉ M) → (con t).go L = !t.go M
  | .b i, h => by
    have := h i (by rw [Tr.held]; exact List.mem_singleton.mpr rfl)
    rw [con, Tr.go, Tr.go]
    by_cases hi : i ∈ L
    · rw [decide_eq_true hi, decide_eq_false (this.mp hi)]
      rfl
    · rw [decide_eq_false hi, decide_eq_true (Decidable.not_not.mp fun q => hi (this.mpr q))]
      rfl
  | .t k ps, h => by
    have hc := cnt_con ps (by rw [Tr.held] at h; exact h)
    rw [con, Tr.go, Tr.go]
    by_cases hk : k ≤ (Tr.cnt M ps : Int)
    · rw [decide_eq_true hk]
      exact decide_eq_false (by omega)
    · rw [decide_eq_false hk]
      exact decide_eq_true (by omega)
theorem cnt_con {L M : List Int} : ∀ ps : List Tr, (∀ x ∈ Tr.helds ps, x ∈ L ↔ x ∉ M) → Tr.cnt L (cons ps) + Tr.cnt M ps = ps.length
  | [], _ => by rw [cons, Tr.cnt, Tr.cnt]; rfl
  | p :: r, h => by
    rw [Tr.helds] at h
    have hp := go_con p fun x hx => h x (List.mem_append_left _ hx)
    have ih := cnt_con r fun x hx => h x (List.mem_append_right _ hx)
    rw [cons, Tr.cnt, Tr.cnt, hp, List.length_cons]
    cases p.go M <;> simp <;> omega
end
/-! ### told trees -/
inductive Wd where
  | one
  | all
  | some
  deriving DecidableEq
def wordOf (k n : Int) : Wd := if k = 1 then .one else if k = n then .all else .some
def Wd.flip : Wd → Wd
  | .one => .all
  | .all => .one
  | .some => .some
theorem word_con {k n : Int} (h1 : 1 ≤ k) (h2 : k ≤ n) (hn : n ≠ 1) : wordOf (n - k + 1) n = (wordOf k n).flip := by
  unfold wordOf
  by_cases a : k = 1
  · have b : ¬ n - k + 1 = 1 := by omega
    have c : n - k + 1 = n := by omega
    rw [if_pos a, if_neg b, if_pos c]
    rfl
  · by_cases b : k = n
    · have c : n - k + 1 = 1 := by omega
      rw [if_neg a, if_pos b, if_pos c]
      rfl
    · have c : ¬ n - k + 1 = 1 := by omega
      have d : ¬ n - k + 1 = n := by omega
      rw [if_neg a, if_neg b, if_neg c, if_neg d]
      rfl
theorem flip_inj {a b : Wd} (h : a.flip = b.flip) : a = b := by
  cases a <;> cases b <;> first | rfl | cases h
/-- what a part gives to its trip's parts -/
def gives (w : Wd) : Tr → List Tr
  | .b i => [.b i]
  | .t k ps => if w ≠ .some ∧ wordOf k ps.length = w then ps else [.t k ps]
theorem gives_t (w : Wd) (k : Int) (ps : List Tr) : gives w (.t k ps) = if w ≠ .some ∧ wordOf k ps.length = w then ps else [.t k ps] := rfl
def sortT (l : List Tr) : List Tr := l.mergeSort fun a b => decide (a.least ≤ b.least)
def joined (k : Int) (inner : List Tr) : Tr :=
  .t (if wordOf k inner.length = .all then ((inner.flatMap (gives (wordOf k inner.length))).length : Int) else k) (sortT (inner.flatMap (gives (wordOf k inner.length))))
def fold1 (k : Int) : List Tr → Tr
  | [p] => p
  | ps => joined k ps
mutual
def tell : Tr → Tr
  | .b i => .b i
  | .t k ps => fold1 k (tells ps)
def tells : List Tr → List Tr
  | [] => []
  | p :: r => tell p :: tells r
end
theorem tells_eq : ∀ ps : List Tr, tells ps = ps.map tell
  | [] => by rw [tells]; rfl
  | p :: r => by rw [tells, tells_eq r]; rfl
theorem tells_len (ps : List Tr) : (tells ps).length = ps.length := by rw [tells_eq, List.length_map]
theorem sort_perm (l : List Tr) : (sortT l).Perm l := List.mergeSort_perm _ _
theorem sort_con (l : List Tr) : (sortT l).map con = sortT (l.map con) := List.map_mergeSort fun a _ b _ => by rw [con_least, con_least]
theorem fold_ne {k : Int} {ps : List Tr} (h : ps.length ≠ 1) : fold1 k ps = joined k ps := by
  match ps, h with
  | [], _ => rfl
  | [_], h => exact absurd rfl h
  | _ :: _ :: _, _ => rfl
theorem perm_flat {A B : List Tr} (h : A.Perm B) : (Tr.helds A).Perm (Tr.helds B) := by
  rw [helds_eq, helds_eq]
  exact h.flatMap_right _
theorem gives_held (w : Wd) (t : Tr) : Tr.helds (gives w t) = t.held := by
  cases t with
  | b i => simp [gives, Tr.helds, Tr.held]
  | t k ps =>
    rw [gives_t]
    split
    · rw [Tr.held]
    · simp [Tr.helds]
theorem helds_gives (w : Wd) : ∀ l : List Tr, Tr.helds (l.flatMap (gives w)) = Tr.helds l
  | [] => rfl
  | p :: r => by
    rw [List.flatMap_cons, helds_eq, List.flatMap_append, ← helds_eq, ← helds_eq, gives_held, helds_gives w r, Tr.helds]
theorem gives_ok (w : Wd) {t : Tr} (h : t.ok) : (∀ p ∈ gives w t, p.ok) ∧ 1 ≤ (gives w t).length := by
  cases t with
  | b i => exact ⟨fun p hp => by rw [List.mem_singleton.mp hp]; exact h, Nat.le_refl _⟩
  | t k ps =>
    rw [gives_t]
    split
    · rw [Tr.ok] at h
      exact ⟨oks_all.mp h.2.2, by omega⟩
    · exact ⟨fun p hp => by rw [List.mem_singleton.mp hp]; exact h, Nat.le_refl _⟩
theorem gives_deep {w : Wd} {t : Tr} {n : Nat} (h : t.deep ≤ n) : ∀ p ∈ gives w t, p.deep ≤ n := by
  cases t with
  | b i => exact fun p hp => by rw [List.mem_singleton.mp hp]; exact h
  | t k ps =>
    rw [gives_t]
    split
    · intro p hp
      rw [Tr.deep] at h
      exact (deeps_le (n := n)).mp (by omega) p hp
    · exact fun p hp => by rw [List.mem_singleton.mp hp]; exact h
theorem flat_len {w : Wd} : ∀ {l : List Tr}, (∀ p ∈ l, p.ok) → l.length ≤ (l.flatMap (gives w)).length
  | [], _ => Nat.le_refl _
  | p :: r, h => by
    have h1 := (gives_ok w (h p List.mem_cons_self)).2
    have h2 := flat_len (w := w) (l := r) fun q hq => h q (List.mem_cons_of_mem _ hq)
    rw [List.flatMap_cons, List.length_append, List.length_cons]
    omega
theorem gives_some (l : List Tr) : l.flatMap (gives .some) = l := by
  have : ∀ p : Tr, gives .some p = [p] := fun p => by
    cases p with
    | b i => rfl
    | t k ps => rw [gives_t, if_neg fun q => q.1 rfl]
  induction l with
  | nil => rfl
  | cons p r ih => rw [List.flatMap_cons, this, ih]; rfl
/-- what telling keeps -/
structure Like (a b : Tr) : Prop where
  ok : a.ok
  held : a.held.Perm b.held
  deep : a.deep ≤ b.deep
theorem joined_like {k : Int} {inner : List Tr} {ps : List Tr} (h1 : 1 ≤ k) (h2 : k ≤ inner.length) (ho : ∀ p ∈ inner, p.ok) (hh : (Tr.helds inner).Perm (Tr.helds ps)) (hd : ∀ p ∈ inner, p.deep ≤ Tr.deeps ps) : Like (joined k inner) (.t k ps) := by
  have hp := sort_perm (inner.flatMap (gives (wordOf k inner.length)))
  have hl := hp.length_eq
  have hf := flat_len (w := wordOf k inner.length) ho
  refine ⟨?_, ?_, ?_⟩
  · unfold joined
    rw [Tr.ok, hl]
    refine ⟨?_, ?_, oks_all.mpr fun p hq => ?_⟩
    · split <;> omega
    · split
      · exact Int.le_refl _
      · omega
    · obtain ⟨q, hq1, hq2⟩ := List.mem_flatMap.mp (hp.mem_iff.mp hq)
      exact (gives_ok _ (ho q hq1)).1 p hq2
  · unfold joined
    rw [Tr.held, Tr.held]
    refine (perm_flat hp).trans ?_
    rw [helds_gives]
    exact hh
  · unfold joined
    rw [Tr.deep, Tr.deep]
    refine Nat.succ_le_succ (deeps_le.mpr fun p hq => ?_)
    obtain ⟨q, hq1, hq2⟩ := List.mem_flatMap.mp (hp.mem_iff.mp hq)
    exact gives_deep (hd q hq1) p hq2
mutual
theorem tell_like : ∀ t : Tr, t.ok → Like (tell t) t
  | .b i, h => by rw [tell]; exact ⟨h, List.Perm.refl _, Nat.le_refl _⟩
  | .t k ps, h => by
    rw [Tr.ok] at h
    obtain ⟨a1, a2, a3⟩ := tells_like ps h.2.2
    rw [tell]
    by_cases one : (tells ps).length = 1
    · match hq : tells ps, one with
      | [p], _ =>
        rw [hq] at a1 a2 a3
        rw [fold1]
        refine ⟨a1 p (List.mem_singleton.mpr rfl), ?_, ?_⟩
        · rw [Tr.held]
          simpa [Tr.helds] using a2
        · have := a3 p (List.mem_singleton.mpr rfl)
          rw [Tr.deep]
          omega
    · rw [fold_ne one]
      exact joined_like h.1 (by rw [tells_len]; exact h.2.1) a1 a2 a3
theorem tells_like : ∀ ps : List Tr, Tr.oks ps → (∀ p ∈ tells ps, p.ok) ∧ (Tr.helds (tells ps)).Perm (Tr.helds ps) ∧ ∀ p ∈ tells ps, p.deep ≤ Tr.deeps ps
  | [], _ => by
    rw [tells]
    exact ⟨fun p hp => (nomatch hp), List.Perm.refl _, fun p hp => (nomatch hp)⟩
  | q :: r, h => by
    rw [Tr.oks] at h
    obtain ⟨b1, b2, b3⟩ := tell_like q h.1
    obtain ⟨a1, a2, a3⟩ := tells_like r h.2
    rw [tells]
    refine ⟨fun p hp => ?_, ?_, fun p hp => ?_⟩
    · rcases List.mem_cons.mp hp with e | e
      · rw [e]; exact b1
      · exact a1 p e
    · rw [Tr.helds, Tr.helds]
      exact b2.append a2
    · rw [Tr.deeps]
      rcases List.mem_cons.mp hp with e | e
      · rw [e]; omega
      · have := a3 p e
        omega
end
theorem gives_con {w : Wd} {t : Tr} (h : t.ok) (hw : ∀ k ps, t = .t k ps → ps.length ≠ 1) : gives w.flip (con t) = (gives w t).map con := by
  cases t with
  | b i => rw [con]; rfl
  | t k ps =>
    rw [Tr.ok] at h
    have := word_con h.1 h.2.1 (by have := hw k ps rfl; omega)
    rw [con, gives_t, gives_t, cons_len, this]
    by_cases c : w ≠ .some ∧ wordOf k ps.length = w
    · have d : w.flip ≠ .some ∧ (wordOf k ps.length).flip = w.flip := ⟨fun q => c.1 (flip_inj (b := .some) q), by rw [c.2]⟩
      rw [if_pos c, if_pos d, cons_eq]
    · have d : ¬ (w.flip ≠ .some ∧ (wordOf k ps.length).flip = w.flip) := fun q => c ⟨fun z => q.1 (by rw [z]; rfl), flip_inj q.2⟩
      rw [if_neg c, if_neg d, List.map_singleton, con]
theorem flat_con {w : Wd} : ∀ {l : List Tr}, (∀ t ∈ l, t.ok ∧ ∀ k ps, t = .t k ps → ps.length ≠ 1) → (l.map con).flatMap (gives w.flip) = (l.flatMap (gives w)).map con
  | [], _ => rfl
  | p :: r, h => by
    have hp := h p List.mem_cons_self
    rw [List.map_cons, List.flatMap_cons, List.flatMap_cons, List.map_append, gives_con hp.1 hp.2, flat_con fun t ht => h t (List.mem_cons_of_mem _ ht)]
theorem joined_con {k : Int} {inner : List Tr} (h1 : 1 ≤ k) (h2 : k ≤ inner.length) (h3 : inner.length ≠ 1) (hi : ∀ t ∈ inner, t.ok ∧ ∀ k ps, t = .t k ps → ps.length ≠ 1) :
    joined ((inner.length : Int) - k + 1) (inner.map con) = con (joined k inner) := by
  have hw := word_con h1 h2 (by omega)
  have hl := (sort_perm (inner.flatMap (gives (wordOf k inner.length)))).length_eq
  unfold joined
  rw [con, List.length_map, hw, flat_con hi, ← sort_con, cons_eq, List.length_map, hl]
  congr 1
  cases h : wordOf k inner.length with
  | one =>
    have : k = 1 := by
      unfold wordOf at h
      by_cases c : k = 1
      · exact c
      · rw [if_neg c] at h
        split at h <;> cases h
    rw [if_pos (show Wd.one.flip = Wd.all from rfl), if_neg (show ¬ Wd.one = Wd.all by intro z; cases z), this]
    omega
  | all =>
    have : k = inner.length := by
      unfold wordOf at h
      by_cases c : k = 1
      · rw [if_pos c] at h
        cases h
      · rw [if_neg c] at h
        by_cases d : k = inner.length
        · exact d
        · rw [if_neg d] at h
          cases h
    rw [if_neg (show ¬ Wd.all.flip = Wd.all by intro z; cases z), if_pos (show Wd.all = Wd.all from rfl), this]
    omega
  | some =>
    rw [if_neg (show ¬ Wd.some.flip = Wd.all by intro z; cases z), if_neg (show ¬ Wd.some = Wd.all by intro z; cases z), gives_some]
mutual
theorem tell_two : ∀ t : Tr, t.ok → ∀ k ps, tell t = .t k ps → ps.length ≠ 1
  | .b i, _, k, ps, e => by rw [tell] at e; cases e
  | .t k qs, h, k', ps, e => by
    rw [Tr.ok] at h
    rw [tell] at e
    have ht := tells_two qs h.2.2
    obtain ⟨a1, _, _⟩ := tells_like qs h.2.2
    have hl := tells_len qs
    by_cases one : (tells qs).length = 1
    · match hq : tells qs, one with
      | [p], _ =>
        rw [hq, fold1] at e
        rw [hq] at ht
        exact ht p (List.mem_singleton.mpr rfl) k' ps e
    · rw [fold_ne one] at e
      unfold joined at e
      injection e with _ e2
      have hp := (sort_perm ((tells qs).flatMap (gives (wordOf k (tells qs).length)))).length_eq
      have hf := flat_len (w := wordOf k (tells qs).length) a1
      rw [← e2, hp]
      omega
theorem tells_two : ∀ ps : List Tr, Tr.oks ps → ∀ t ∈ tells ps, ∀ k qs, t = .t k qs → qs.length ≠ 1
  | [], _, t, ht, _, _, _ => by rw [tells] at ht; exact nomatch ht
  | p :: r, h, t, ht, k, qs, e => by
    rw [Tr.oks] at h
    rw [tells] at ht
    rcases List.mem_cons.mp ht with z | z
    · rw [z] at e
      exact tell_two p h.1 k qs e
    · exact tells_two r h.2 t z k qs e
end
/-! told and contrary come to one either way -/
mutual
theorem tell_con : ∀ t : Tr, t.ok → tell (con t) = con (tell t)
  | .b i, _ => by rw [con, tell, con]
  | .t k ps, h => by
    rw [Tr.ok] at h
    have e := tells_con ps h.2.2
    have hl := tells_len ps
    rw [con, tell, tell, e]
    by_cases one : (tells ps).length = 1
    · match hq : tells ps, one with
      | [p], _ => rw [List.map_singleton, fold1, fold1]
    · rw [fold_ne one, fold_ne (by rw [List.length_map]; exact one), ← hl]
      exact joined_con h.1 (by rw [hl]; exact h.2.1) one fun t ht => ⟨(tells_like ps h.2.2).1 t ht, tells_two ps h.2.2 t ht⟩
theorem tells_con : ∀ ps : List Tr, Tr.oks ps → tells (cons ps) = (tells ps).map con
  | [], _ => by rw [cons, tells]; rfl
  | p :: r, h => by
    rw [Tr.oks] at h
    rw [cons, tells, tells, tell_con p h.1, tells_con r h.2]
    rfl
end
end Own

namespace Own
open PySem PySem.Spec PyProof.Rows L2

/-! ### trees in order: the least button stands ahead -/
mutual
def Tr.srt : Tr → Prop
  | .b _ => True
  | .t _ ps => (∀ x ∈ Tr.helds ps, Tr.leasts ps ≤ x) ∧ Tr.srts ps
def Tr.srts : List Tr → Prop
  | [] => True
  | p :: r => p.srt ∧ Tr.srts r
end
theorem srts_all : ∀ {ps : List Tr}, Tr.srts ps ↔ ∀ p ∈ ps, p.srt
  | [] => by simp [Tr.srts]
  | p :: r => by simp [Tr.srts, srts_all (ps := r)]
theorem srt_min {t : Tr} (h : t.srt) : ∀ x ∈ t.held, t.least ≤ x := by
  cases t with
  | b i =>
    intro x hx
    rw [Tr.held, List.mem_singleton] at hx
    rw [hx, Tr.least]
    exact Int.le_refl _
  | t k ps =>
    rw [Tr.srt] at h
    rw [Tr.held, Tr.least]
    exact h.1
theorem le_helds {q : Tr} {r : List Tr} (h1 : ∀ p ∈ q :: r, p.srt) (h2 : ∀ p ∈ r, q.least ≤ p.least) : ∀ x ∈ Tr.helds (q :: r), q.least ≤ x := by
  intro x hx
  rw [helds_eq] at hx
  obtain ⟨p, hp, hxp⟩ := List.mem_flatMap.mp hx
  have := srt_min (h1 p hp) x hxp
  rcases List.mem_cons.mp hp with e | e
  · rw [e] at this; exact this
  · exact Int.le_trans (h2 p e) this
theorem sort_pw (l : List Tr) : (sortT l).Pairwise fun a b => a.least ≤ b.least := by
  have := List.pairwise_mergeSort (le := fun a b : Tr => decide (a.least ≤ b.least)) (fun a b c h1 h2 => decide_eq_true (Int.le_trans (of_decide_eq_true h1) (of_decide_eq_true h2)))
    (fun a b => by
      rcases Int.le_total a.least b.least with z | z
      · simp [z]
      · simp [z]) l
  exact this.imp fun h => of_decide_eq_true h
theorem sort_srt {l : List Tr} (h : ∀ p ∈ l, p.srt) : (∀ x ∈ Tr.helds (sortT l), Tr.leasts (sortT l) ≤ x) ∧ Tr.srts (sortT l) := by
  have hm : ∀ p ∈ sortT l, p.srt := fun p hp => h p ((sort_perm l).mem_iff.mp hp)
  refine ⟨?_, srts_all.mpr hm⟩
  have hp := sort_pw l
  generalize sortT l = m at hm hp
  cases m with
  | nil => intro x hx; rw [Tr.helds] at hx; exact nomatch hx
  | cons q r =>
    rw [Tr.leasts]
    exact le_helds hm fun p hpr => (List.pairwise_cons.mp hp).1 p hpr
theorem gives_srt (w : Wd) {t : Tr} (h : t.srt) : ∀ p ∈ gives w t, p.srt := by
  cases t with
  | b i => exact fun p hp => by rw [List.mem_singleton.mp hp]; exact h
  | t k ps =>
    rw [gives_t]
    split
    · rw [Tr.srt] at h
      exact srts_all.mp h.2
    · exact fun p hp => by rw [List.mem_singleton.mp hp]; exact h
mutual
theorem tell_srt : ∀ t : Tr, (tell t).srt
  | .b i => by rw [tell, Tr.srt]; trivial
  | .t k ps => by
    have h := tells_srt ps
    rw [tell]
    by_cases one : (tells ps).length = 1
    · match hq : tells ps, one with
      | [p], _ =>
        rw [hq] at h
        rw [fold1]
        exact h p (List.mem_singleton.mpr rfl)
    · rw [fold_ne one]
      unfold joined
      rw [Tr.srt]
      exact sort_srt fun p hp => by
        obtain ⟨q, hq1, hq2⟩ := List.mem_flatMap.mp hp
        exact gives_srt _ (h q hq1) p hq2
theorem tells_srt : ∀ ps : List Tr, ∀ p ∈ tells ps, p.srt
  | [], p, hp => by rw [tells] at hp; exact nomatch hp
  | q :: r, p, hp => by
    rw [tells] at hp
    rcases List.mem_cons.mp hp with e | e
    · rw [e]; exact tell_srt q
    · exact tells_srt r p e
end
/-- the law's own word for a part that is told within its trip -/
theorem so_word {k j n m : Int} (hn : n ≠ 1) (hm : m ≠ 1) : ((k = 1 ∧ j = 1) ∨ (k = n ∧ j = m)) ↔ (wordOf k n ≠ .some ∧ wordOf j m = wordOf k n) := by
  unfold wordOf
  by_cases a : k = 1
  · have b : ¬ k = n := by omega
    rw [if_pos a]
    by_cases c : j = 1
    · rw [if_pos c]
      exact ⟨fun _ => ⟨(by intro z; cases z), rfl⟩, fun _ => .inl ⟨a, c⟩⟩
    · rw [if_neg c]
      refine ⟨fun h => ?_, fun h => ?_⟩
      · rcases h with h | h
        · exact absurd h.2 c
        · exact absurd h.1 b
      · have := h.2
        split at this <;> cases this
  · rw [if_neg a]
    by_cases b : k = n
    · rw [if_pos b]
      by_cases c : j = m
      · have d : ¬ j = 1 := by omega
        rw [if_neg d, if_pos c]
        exact ⟨fun _ => ⟨(by intro z; cases z), rfl⟩, fun _ => .inr ⟨b, c⟩⟩
      · refine ⟨fun h => ?_, fun h => ?_⟩
        · rcases h with h | h
          · exact absurd h.1 a
          · exact absurd h.2 c
        · have := h.2
          rw [if_neg c] at this
          split at this <;> cases this
    · rw [if_neg b]
      refine ⟨fun h => ?_, fun h => absurd rfl h.1⟩
      rcases h with h | h
      · exact absurd h.1 a
      · exact absurd h.1 b
/-! ### plain trees: what telling leaves as it is -/
def partAs (w : Wd) : Tr → Prop
  | .b _ => False
  | .t k ps => wordOf k ps.length = w
mutual
def Tr.plain : Tr → Prop
  | .b _ => True
  | .t k ps => ps.length ≠ 1 ∧ (wordOf k ps.length ≠ .some → ∀ p ∈ ps, ¬ partAs (wordOf k ps.length) p) ∧ ps.Pairwise (fun a b => a.least ≤ b.least) ∧ Tr.plains ps
def Tr.plains : List Tr → Prop
  | [] => True
  | p :: r => p.plain ∧ Tr.plains r
end
theorem plains_all : ∀ {ps : List Tr}, Tr.plains ps ↔ ∀ p ∈ ps, p.plain
  | [] => by simp [Tr.plains]
  | p :: r => by simp [Tr.plains, plains_all (ps := r)]
theorem gives_one {w : Wd} {t : Tr} (h : w ≠ .some → ¬ partAs w t) : gives w t = [t] := by
  cases t with
  | b i => rfl
  | t k ps =>
    rw [gives_t, if_neg]
    exact fun q => h q.1 q.2
theorem flat_one {w : Wd} : ∀ {l : List Tr}, (w ≠ .some → ∀ p ∈ l, ¬ partAs w p) → l.flatMap (gives w) = l
  | [], _ => rfl
  | p :: r, h => by
    rw [List.flatMap_cons, gives_one fun q => h q p List.mem_cons_self, flat_one fun q t ht => h q t (List.mem_cons_of_mem _ ht)]
    rfl
theorem sort_id {l : List Tr} (h : l.Pairwise fun a b => a.least ≤ b.least) : sortT l = l :=
  List.mergeSort_of_pairwise (h.imp fun q => decide_eq_true q)
mutual
theorem tell_plain : ∀ t : Tr, t.plain → tell t = t
  | .b i, _ => by rw [tell]
  | .t k ps, h => by
    rw [Tr.plain] at h
    obtain ⟨h1, h2, h3, h4⟩ := h
    rw [tell, tells_plain ps h4, fold_ne h1]
    unfold joined
    rw [flat_one h2, sort_id h3]
    congr 1
    split
    · rename_i c
      unfold wordOf at c
      by_cases a : k = 1
      · rw [if_pos a] at c
        cases c
      · rw [if_neg a] at c
        by_cases b : k = (ps.length : Int)
        · exact b.symm
        · rw [if_neg b] at c
          cases c
    · rfl
theorem tells_plain : ∀ ps : List Tr, Tr.plains ps → tells ps = ps
  | [], _ => by rw [tells]
  | p :: r, h => by
    rw [Tr.plains] at h
    rw [tells, tell_plain p h.1, tells_plain r h.2]
end
/-! telling leaves a plain tree -/
theorem word_joined {k : Int} {inner : List Tr} (h1 : 1 ≤ k) (h3 : inner.length ≠ 1) (h2 : k ≤ inner.length) (hf : inner.length ≤ (inner.flatMap (gives (wordOf k inner.length))).length) :
    wordOf (if wordOf k inner.length = .all then ((inner.flatMap (gives (wordOf k inner.length))).length : Int) else k) (inner.flatMap (gives (wordOf k inner.length))).length = wordOf k inner.length := by
  cases hw : wordOf k inner.length with
  | one =>
    rw [hw] at hf
    have : k = 1 := by
      unfold wordOf at hw
      by_cases c : k = 1
      · exact c
      · rw [if_neg c] at hw
        split at hw <;> cases hw
    rw [if_neg (show ¬ Wd.one = Wd.all by intro z; cases z)]
    unfold wordOf
    rw [if_pos this]
  | all =>
    rw [hw] at hf
    rw [if_pos rfl]
    unfold wordOf
    rw [if_neg (by omega), if_pos rfl]
  | some =>
    rw [if_neg (show ¬ Wd.some = Wd.all by intro z; cases z), gives_some]
    exact hw
theorem gives_apart {w : Wd} {t : Tr} (hw : w ≠ .some) (h : t.plain) : ∀ p ∈ gives w t, p.plain ∧ ¬ partAs w p := by
  cases t with
  | b i => exact fun p hp => by rw [List.mem_singleton.mp hp]; exact ⟨h, id⟩
  | t k ps =>
    rw [gives_t]
    by_cases c : w ≠ .some ∧ wordOf k ps.length = w
    · rw [if_pos c]
      rw [Tr.plain] at h
      obtain ⟨_, h2, _, h4⟩ := h
      rw [c.2] at h2
      exact fun p hp => ⟨plains_all.mp h4 p hp, h2 hw p hp⟩
    · rw [if_neg c]
      exact fun p hp => by
        rw [List.mem_singleton.mp hp]
        exact ⟨h, fun q => c ⟨hw, q⟩⟩
theorem gives_plain (w : Wd) {t : Tr} (h : t.plain) : ∀ p ∈ gives w t, p.plain := by
  by_cases hw : w = .some
  · subst hw
    cases t with
    | b i => exact fun p hp => by rw [List.mem_singleton.mp hp]; exact h
    | t k ps =>
      rw [gives_t, if_neg fun q => q.1 rfl]
      exact fun p hp => by rw [List.mem_singleton.mp hp]; exact h
  · exact fun p hp => (gives_apart hw h p hp).1
mutual
theorem plain_tell : ∀ t : Tr, t.ok → (tell t).plain
  | .b i, _ => by rw [tell, Tr.plain]; trivial
  | .t k ps, h => by
    rw [Tr.ok] at h
    have hp := plain_tells ps h.2.2
    obtain ⟨a1, _, _⟩ := tells_like ps h.2.2
    have hl := tells_len ps
    rw [tell]
    by_cases one : (tells ps).length = 1
    · match hq : tells ps, one with
      | [p], _ =>
        rw [hq] at hp
        rw [fold1]
        exact hp p (List.mem_singleton.mpr rfl)
    · rw [fold_ne one]
      have hf := flat_len (w := wordOf k (tells ps).length) a1
      have hs := sort_perm ((tells ps).flatMap (gives (wordOf k (tells ps).length)))
      have hw := word_joined h.1 one (by rw [hl]; exact h.2.1) hf
      unfold joined
      rw [Tr.plain, hs.length_eq, hw]
      refine ⟨by omega, fun hns p hpm => ?_, sort_pw _, plains_all.mpr fun p hpm => ?_⟩
      · obtain ⟨q, hq1, hq2⟩ := List.mem_flatMap.mp (hs.mem_iff.mp hpm)
        exact (gives_apart hns (hp q hq1) p hq2).2
      · obtain ⟨q, hq1, hq2⟩ := List.mem_flatMap.mp (hs.mem_iff.mp hpm)
        exact gives_plain _ (hp q hq1) p hq2
theorem plain_tells : ∀ ps : List Tr, Tr.oks ps → ∀ p ∈ tells ps, p.plain
  | [], _, p, hp => by rw [tells] at hp; exact nomatch hp
  | q :: r, h, p, hp => by
    rw [Tr.oks] at h
    rw [tells] at hp
    rcases List.mem_cons.mp hp with e | e
    · rw [e]; exact plain_tell q h.1
    · exact plain_tells r h.2 p e
end
theorem tell_iff {t : Tr} (h : t.ok) : tell t = t ↔ t.plain := ⟨fun e => e ▸ plain_tell t h, tell_plain t⟩
theorem tell_tell {t : Tr} (h : t.ok) : tell (tell t) = tell t := tell_plain _ (plain_tell t h)
/-! the same lots go -/
theorem sum_flat (L : List Int) : ∀ ps : List Tr, Tr.cnt L ps = (ps.filter fun p => p.go L).length
  | [] => by rw [Tr.cnt]; rfl
  | p :: r => by
    rw [Tr.cnt, sum_flat L r, List.filter_cons]
    cases h : p.go L
    · simp
    · simp
      omega
theorem cnt_perm {L : List Int} {A B : List Tr} (h : A.Perm B) : Tr.cnt L A = Tr.cnt L B := by
  rw [sum_flat, sum_flat]
  exact (h.filter _).length_eq
theorem cnt_app (L : List Int) : ∀ A B : List Tr, Tr.cnt L (A ++ B) = Tr.cnt L A + Tr.cnt L B
  | [], B => by rw [List.nil_append, Tr.cnt]; omega
  | p :: r, B => by rw [List.cons_append, Tr.cnt, Tr.cnt, cnt_app L r B]; omega
theorem cnt_most (L : List Int) (ps : List Tr) : Tr.cnt L ps ≤ ps.length := by
  rw [sum_flat]
  exact List.length_filter_le _ _
theorem word_one {k n : Int} (h : wordOf k n = .one) : k = 1 := by
  unfold wordOf at h
  by_cases c : k = 1
  · exact c
  · rw [if_neg c] at h
    split at h <;> cases h
theorem word_all {k n : Int} (h : wordOf k n = .all) : k = n := by
  unfold wordOf at h
  by_cases c : k = 1
  · rw [if_pos c] at h
    cases h
  · rw [if_neg c] at h
    by_cases d : k = n
    · exact d
    · rw [if_neg d] at h
      cases h
theorem one_gives (L : List Int) (t : Tr) : 1 ≤ Tr.cnt L (gives .one t) ↔ t.go L = true := by
  have base : ∀ u : Tr, 1 ≤ Tr.cnt L [u] ↔ u.go L = true := fun u => by
    rw [Tr.cnt, Tr.cnt]
    cases u.go L <;> simp
  cases t with
  | b i => exact base (.b i)
  | t k ps =>
    rw [gives_t]
    by_cases c : Wd.one ≠ .some ∧ wordOf k ps.length = .one
    · rw [if_pos c, Tr.go, word_one c.2, decide_eq_true_eq]
      omega
    · rw [if_neg c]
      exact base _
theorem one_flat (L : List Int) : ∀ l : List Tr, 1 ≤ Tr.cnt L (l.flatMap (gives .one)) ↔ 1 ≤ Tr.cnt L l
  | [] => Iff.rfl
  | p :: r => by
    have h1 := one_gives L p
    have h2 := one_flat L r
    rw [List.flatMap_cons, cnt_app, Tr.cnt]
    cases hp : p.go L with
    | true =>
      rw [hp] at h1
      have := h1.mpr rfl
      simp
      omega
    | false =>
      rw [hp] at h1
      have : ¬ 1 ≤ Tr.cnt L (gives .one p) := fun z => nomatch h1.mp z
      simp
      omega
theorem all_gives (L : List Int) (t : Tr) : Tr.cnt L (gives .all t) = (gives .all t).length ↔ t.go L = true := by
  have base : ∀ u : Tr, Tr.cnt L [u] = [u].length ↔ u.go L = true := fun u => by
    rw [Tr.cnt, Tr.cnt]
    cases u.go L <;> simp
  cases t with
  | b i => exact base (.b i)
  | t k ps =>
    rw [gives_t]
    by_cases c : Wd.all ≠ .some ∧ wordOf k ps.length = .all
    · have := cnt_most L ps
      rw [if_pos c, Tr.go, word_all c.2, decide_eq_true_eq]
      omega
    · rw [if_neg c]
      exact base _
theorem all_flat (L : List Int) : ∀ l : List Tr, Tr.cnt L (l.flatMap (gives .all)) = (l.flatMap (gives .all)).length ↔ Tr.cnt L l = l.length
  | [] => Iff.rfl
  | p :: r => by
    have h1 := all_gives L p
    have h2 := all_flat L r
    have m1 := cnt_most L (gives .all p)
    have m2 := cnt_most L (r.flatMap (gives .all))
    have m3 := cnt_most L r
    rw [List.flatMap_cons, cnt_app, Tr.cnt, List.length_append, List.length_cons]
    cases hp : p.go L with
    | true =>
      rw [hp] at h1
      have := h1.mpr rfl
      rw [if_pos rfl]
      omega
    | false =>
      rw [hp] at h1
      have : ¬ Tr.cnt L (gives .all p) = (gives .all p).length := fun z => nomatch h1.mp z
      rw [if_neg Bool.false_ne_true]
      omega
theorem go_joined {k : Int} {inner : List Tr} (L : List Int) (h1 : 1 ≤ k) (h2 : k ≤ inner.length) : (joined k inner).go L = decide (k ≤ (Tr.cnt L inner : Int)) := by
  unfold joined
  rw [Tr.go, cnt_perm (sort_perm _)]
  cases hw : wordOf k inner.length with
  | one =>
    have := one_flat L inner
    rw [if_neg (show ¬ Wd.one = Wd.all by intro z; cases z), word_one hw]
    by_cases c : 1 ≤ Tr.cnt L inner
    · rw [decide_eq_true (show (1 : Int) ≤ (Tr.cnt L inner : Int) by omega)]
      exact decide_eq_true (by have := this.mpr c; omega)
    · rw [decide_eq_false (show ¬ (1 : Int) ≤ (Tr.cnt L inner : Int) by omega)]
      exact decide_eq_false fun z => c (this.mp (by omega))
  | all =>
    have := all_flat L inner
    have m1 := cnt_most L inner
    have m2 := cnt_most L (inner.flatMap (gives .all))
    rw [if_pos rfl, word_all hw]
    by_cases c : Tr.cnt L inner = inner.length
    · rw [decide_eq_true (show (inner.length : Int) ≤ (Tr.cnt L inner : Int) by omega)]
      exact decide_eq_true (by have := this.mpr c; omega)
    · rw [decide_eq_false (show ¬ (inner.length : Int) ≤ (Tr.cnt L inner : Int) by omega)]
      exact decide_eq_false fun z => c (this.mp (by omega))
  | some =>
    rw [if_neg (show ¬ Wd.some = Wd.all by intro z; cases z), gives_some]
mutual
theorem go_tell (L : List Int) : ∀ t : Tr, t.ok → (tell t).go L = t.go L
  | .b i, _ => by rw [tell]
  | .t k ps, h => by
    rw [Tr.ok] at h
    have hc := cnt_tells L ps h.2.2
    have hl := tells_len ps
    rw [tell]
    by_cases one : (tells ps).length = 1
    · match hq : tells ps, one with
      | [p], _ =>
        rw [hq] at hc hl
        rw [fold1, Tr.go, ← hc, Tr.cnt, Tr.cnt]
        have hk : k = 1 := by
          have := h.2.1
          rw [← hl] at this
          simp at this
          omega
        rw [hk]
        cases p.go L <;> simp
    · rw [fold_ne one, go_joined L h.1 (by rw [hl]; exact h.2.1), hc, Tr.go]
theorem cnt_tells (L : List Int) : ∀ ps : List Tr, Tr.oks ps → Tr.cnt L (tells ps) = Tr.cnt L ps
  | [], _ => by rw [tells]
  | p :: r, h => by
    rw [Tr.oks] at h
    rw [tells, Tr.cnt, Tr.cnt, go_tell L p h.1, cnt_tells L r h.2]
end
end Own

namespace Own
open PySem PySem.Spec PyProof.Rows L2

/-! ### all things in a tree, in order; ways -/
mutual
def subs : Tr → List Tr
  | .b i => [.b i]
  | .t k ps => .t k ps :: subss ps
def subss : List Tr → List Tr
  | [] => []
  | p :: r => subs p ++ subss r
end
theorem subss_app : ∀ a b : List Tr, subss (a ++ b) = subss a ++ subss b
  | [], b => by rw [List.nil_append, subss, List.nil_append]
  | x :: a, b => by rw [List.cons_append, subss, subss, subss_app a b, List.append_assoc]
theorem mem_subss {s : Tr} : ∀ {ps : List Tr}, s ∈ subss ps ↔ ∃ p ∈ ps, s ∈ subs p
  | [] => by simp [subss]
  | p :: r => by
    rw [subss, List.mem_append, mem_subss (ps := r)]
    simp
theorem self_subs (t : Tr) : t ∈ subs t := by
  cases t with
  | b i => simp [subs]
  | t k ps => rw [subs]; exact List.mem_cons_self
/-- the thing to which a way leads -/
def toward : Tr → List Int → Option Tr
  | t, [] => some t
  | .b _, _ :: _ => none
  | .t _ ps, i :: w => if 0 ≤ i then (match ps[i.toNat]? with | some p => toward p w | none => none) else none
theorem toward_nil (t : Tr) : toward t [] = some t := by cases t <;> rfl
theorem toward_cons {k : Int} {ps : List Tr} {i : Int} {w : List Int} {s : Tr} (h : toward (.t k ps) (i :: w) = some s) : 0 ≤ i ∧ ∃ p, ps[i.toNat]? = some p ∧ toward p w = some s := by
  rw [toward] at h
  split at h
  · rename_i h0
    cases hp : ps[i.toNat]? with
    | none => rw [hp] at h; cases h
    | some p => rw [hp] at h; exact ⟨h0, p, rfl, h⟩
  · cases h
theorem toward_mk {k : Int} {ps : List Tr} {i : Int} {w : List Int} {p : Tr} (h0 : 0 ≤ i) (hp : ps[i.toNat]? = some p) : toward (.t k ps) (i :: w) = toward p w := by
  rw [toward, if_pos h0, hp]
theorem toward_snoc {k : Int} {ps : List Tr} {i : Nat} {p : Tr} : ∀ {w : List Int} {t : Tr}, toward t w = some (.t k ps) → ps[i]? = some p → toward t (w ++ [(i : Int)]) = some p
  | [], t, h, hp => by
    rw [toward_nil] at h
    cases h
    rw [List.nil_append, toward_mk (Int.natCast_nonneg i) (p := p) (by rw [Int.toNat_natCast]; exact hp), toward_nil]
  | j :: w, .b _, h, _ => by
    rw [toward] at h
    cases h
  | j :: w, .t _ qs, h, hp => by
    obtain ⟨h0, q, hq, hr⟩ := toward_cons h
    rw [List.cons_append, toward_mk h0 hq]
    exact toward_snoc hr hp
/-- a tree with another thing where a way leads -/
def putAt : Tr → List Int → Tr → Tr
  | _, [], u => u
  | .b i, _ :: _, _ => .b i
  | .t k ps, i :: w, u => .t k (ps.set i.toNat (putAt (ps.getD i.toNat (.b 0)) w u))
theorem putAt_nil (t u : Tr) : putAt t [] u = u := by cases t <;> rfl
theorem putAt_cons {k : Int} {ps : List Tr} {i : Int} {w : List Int} {p u : Tr} (hp : ps[i.toNat]? = some p) : putAt (.t k ps) (i :: w) u = .t k (ps.set i.toNat (putAt p w u)) := by
  rw [putAt, List.getD_eq_getElem?_getD, hp]
  rfl
/-- nothing new but a place more -/
structure Under (s u : Tr) : Prop where
  ok : u.ok
  deep : u.deep ≤ s.deep + 1
  few : u.held.length ≤ s.held.length
  sub : ∀ x ∈ u.held, x ∈ s.held
theorem set_few {q : Tr} : ∀ {ps : List Tr} {i : Nat} {p : Tr}, ps[i]? = some p → q.held.length ≤ p.held.length → (Tr.helds (ps.set i q)).length ≤ (Tr.helds ps).length
  | [], _, _, h, _ => by simp at h
  | r :: ps, 0, p, h, hq => by
    simp at h
    subst h
    rw [List.set_cons_zero, Tr.helds, Tr.helds, List.length_append, List.length_append]
    omega
  | r :: ps, i + 1, p, h, hq => by
    have := set_few (ps := ps) (i := i) (p := p) (by simpa using h) hq
    rw [List.set_cons_succ, Tr.helds, Tr.helds, List.length_append, List.length_append]
    omega
theorem Under.put {u s : Tr} (h : Under s u) : ∀ {w : List Int} {t : Tr}, t.ok → toward t w = some s → Under t (putAt t w u)
  | [], t, _, e => by
    rw [toward_nil] at e
    cases e
    rw [putAt_nil]
    exact h
  | i :: w, .b _, _, e => by
    rw [toward] at e
    cases e
  | i :: w, .t k ps, o, e => by
    obtain ⟨h0, p, hp, hr⟩ := toward_cons e
    rw [Tr.ok] at o
    have hm := List.mem_of_getElem? hp
    have ih := Under.put h (t := p) (oks_all.mp o.2.2 p hm) hr
    rw [putAt_cons hp]
    have hd := deep_get hp
    refine ⟨?_, ?_, ?_, ?_⟩
    · rw [Tr.ok, List.length_set]
      refine ⟨o.1, o.2.1, oks_all.mpr fun q hq => ?_⟩
      rcases List.mem_or_eq_of_mem_set hq with z | z
      · exact oks_all.mp o.2.2 q z
      · rw [z]; exact ih.ok
    · rw [Tr.deep, Tr.deep]
      have : Tr.deeps (ps.set i.toNat (putAt p w u)) ≤ Tr.deeps ps + 1 := deeps_le.mpr fun q hq => by
        rcases List.mem_or_eq_of_mem_set hq with z | z
        · have := (deeps_le (n := Tr.deeps ps)).mp (Nat.le_refl _) q z
          omega
        · rw [z]
          have := ih.deep
          omega
      omega
    · rw [Tr.held, Tr.held]
      exact set_few hp ih.few
    · rw [Tr.held, Tr.held]
      intro x hx
      rw [helds_eq, List.mem_flatMap] at hx ⊢
      obtain ⟨q, hq, hxq⟩ := hx
      rcases List.mem_or_eq_of_mem_set hq with z | z
      · exact ⟨q, z, hxq⟩
      · rw [z] at hxq
        exact ⟨p, hm, ih.sub x hxq⟩
/-! ### the law's own look at plain trees -/
def IsMin (m : Int) (L : List Int) : Prop := m ∈ L ∧ ∀ x ∈ L, m ≤ x
theorem IsMin.one {m m' : Int} {L : List Int} (h : IsMin m L) (h' : IsMin m' L) : m = m' := by
  have h1 := h.2 m' h'.1
  have h2 := h'.2 m h.1
  omega
mutual
theorem least_mem : ∀ t : Tr, t.ok → t.least ∈ t.held
  | .b i, _ => by rw [Tr.least, Tr.held]; exact List.mem_singleton.mpr rfl
  | .t k ps, h => by
    rw [Tr.ok] at h
    rw [Tr.least, Tr.held]
    exact leasts_mem ps h.2.2 (by omega)
theorem leasts_mem : ∀ ps : List Tr, Tr.oks ps → 1 ≤ ps.length → Tr.leasts ps ∈ Tr.helds ps
  | [], _, h => absurd h (by simp)
  | p :: r, h, _ => by
    rw [Tr.oks] at h
    rw [Tr.leasts, Tr.helds]
    exact List.mem_append_left _ (least_mem p h.1)
end
theorem min_least {t : Tr} {m : Int} (h : IsMin m t.held) (ho : t.ok) (hs : t.srt) : m = t.least := by
  have h1 := h.2 _ (least_mem t ho)
  have h2 := srt_min hs m h.1
  omega
noncomputable def minOf (t : Tr) : Int := open Classical in if h : ∃ m, IsMin m t.held then h.choose else 0
theorem min_of {t : Tr} {m : Int} (h : IsMin m t.held) : m = minOf t := by
  unfold minOf
  rw [dif_pos ⟨m, h⟩]
  exact h.one (Exists.choose_spec (⟨m, h⟩ : ∃ m, IsMin m t.held))
def goodPart (k n : Int) : Tr → Prop
  | .b _ => True
  | .t j qs => ¬ ((k = 1 ∧ j = 1) ∨ (k = n ∧ j = (qs.length : Int)))
def good : Tr → Prop
  | .b _ => True
  | .t k ps => ps.length ≠ 1 ∧ (∀ p ∈ ps, goodPart k ps.length p) ∧ (ps.map minOf).Pairwise (· ≤ ·)
theorem srt_plain {t : Tr} (h : t.plain) : t.srt := by
  rw [← tell_plain t h]
  exact tell_srt t
theorem minOf_least {t : Tr} (h : t.plain) (o : t.ok) : minOf t = t.least := by
  have hm : IsMin t.least t.held := ⟨least_mem t o, srt_min (srt_plain h)⟩
  exact (min_of hm).symm
theorem part_good {k : Int} {ps : List Tr} {p : Tr} (hn : ps.length ≠ 1) (hp : p.plain) : goodPart k ps.length p ↔ (wordOf k ps.length ≠ .some → ¬ partAs (wordOf k ps.length) p) := by
  cases p with
  | b i => exact ⟨fun _ _ h => h, fun _ => trivial⟩
  | t j qs =>
    rw [Tr.plain] at hp
    have := so_word (k := k) (j := j) (n := (ps.length : Int)) (m := (qs.length : Int)) (by omega) (by have := hp.1; omega)
    exact ⟨fun h a b => h (this.mpr ⟨a, b⟩), fun h q => h (this.mp q).1 (this.mp q).2⟩
mutual
theorem good_plain : ∀ t : Tr, t.ok → ((∀ s ∈ subs t, good s) ↔ t.plain)
  | .b i, _ => by
    rw [Tr.plain]
    exact ⟨fun _ => trivial, fun _ s hs => by rw [subs, List.mem_singleton] at hs; rw [hs]; trivial⟩
  | .t k ps, o => by
    rw [Tr.ok] at o
    have ih := goods_plain ps o.2.2
    rw [Tr.plain, subs]
    constructor
    · intro h
      have h1 : ∀ s ∈ subss ps, good s := fun s hs => h s (List.mem_cons_of_mem _ hs)
      have hp := ih.mp h1
      obtain ⟨g1, g2, g3⟩ : good (.t k ps) := h _ List.mem_cons_self
      refine ⟨g1, fun hw p hm => (part_good g1 (plains_all.mp hp p hm)).mp (g2 p hm) hw, ?_, hp⟩
      rw [List.pairwise_map] at g3
      refine g3.imp_of_mem fun {a b} ha hb q => ?_
      rw [minOf_least (plains_all.mp hp a ha) (oks_all.mp o.2.2 a ha), minOf_least (plains_all.mp hp b hb) (oks_all.mp o.2.2 b hb)] at q
      exact q
    · rintro ⟨g1, g2, g3, hp⟩ s hs
      rcases List.mem_cons.mp hs with rfl | z
      · refine ⟨g1, fun p hm => (part_good g1 (plains_all.mp hp p hm)).mpr fun hw => g2 hw p hm, ?_⟩
        rw [List.pairwise_map]
        refine g3.imp_of_mem fun {a b} ha hb q => ?_
        rw [minOf_least (plains_all.mp hp a ha) (oks_all.mp o.2.2 a ha), minOf_least (plains_all.mp hp b hb) (oks_all.mp o.2.2 b hb)]
        exact q
      · exact ih.mpr hp s z
theorem goods_plain : ∀ ps : List Tr, Tr.oks ps → ((∀ s ∈ subss ps, good s) ↔ Tr.plains ps)
  | [], _ => by
    rw [Tr.plains, subss]
    exact ⟨fun _ => trivial, fun _ s hs => (nomatch hs)⟩
  | p :: r, o => by
    rw [Tr.oks] at o
    have h1 := good_plain p o.1
    have h2 := goods_plain r o.2
    rw [Tr.plains, subss, ← h1, ← h2]
    exact ⟨fun h => ⟨fun s hs => h s (List.mem_append_left _ hs), fun s hs => h s (List.mem_append_right _ hs)⟩, fun h s hs => (List.mem_append.mp hs).elim (h.1 s) (h.2 s)⟩
end
mutual
theorem subs_ok : ∀ t : Tr, t.ok → ∀ s ∈ subs t, s.ok ∧ s.deep ≤ t.deep ∧ s.held.length ≤ t.held.length
  | .b i, _, s, hs => by
    rw [subs, List.mem_singleton] at hs
    rw [hs]
    exact ⟨by rw [Tr.ok]; trivial, Nat.le_refl _, Nat.le_refl _⟩
  | .t k ps, o, s, hs => by
    rw [subs] at hs
    rcases List.mem_cons.mp hs with rfl | z
    · exact ⟨o, Nat.le_refl _, Nat.le_refl _⟩
    · rw [Tr.ok] at o
      obtain ⟨a, b, c⟩ := subss_ok ps o.2.2 s z
      rw [Tr.deep, Tr.held]
      exact ⟨a, by omega, c⟩
theorem subss_ok : ∀ ps : List Tr, Tr.oks ps → ∀ s ∈ subss ps, s.ok ∧ s.deep ≤ Tr.deeps ps ∧ s.held.length ≤ (Tr.helds ps).length
  | [], _, s, hs => by
    rw [subss] at hs
    cases hs
  | p :: r, o, s, hs => by
    rw [Tr.oks] at o
    rw [subss] at hs
    rw [Tr.deeps, Tr.helds, List.length_append]
    rcases List.mem_append.mp hs with z | z
    · obtain ⟨a, b, c⟩ := subs_ok p o.1 s z
      exact ⟨a, by omega, by omega⟩
    · obtain ⟨a, b, c⟩ := subss_ok r o.2 s z
      exact ⟨a, by omega, by omega⟩
end
/-! parts of rows of trees -/
theorem Ats.take {H : Hp} : ∀ {vs : List V} {ts : List Tr}, Ats H vs ts → ∀ n, Ats H (vs.take n) (ts.take n)
  | _, _, .nil, n => by rw [List.take_nil, List.take_nil]; exact .nil
  | _, _, .cons a b, 0 => by rw [List.take_zero, List.take_zero]; exact .nil
  | _, _, .cons a b, n + 1 => by rw [List.take_succ_cons, List.take_succ_cons]; exact .cons a (b.take n)
theorem Ats.drop {H : Hp} : ∀ {vs : List V} {ts : List Tr}, Ats H vs ts → ∀ n, Ats H (vs.drop n) (ts.drop n)
  | _, _, .nil, n => by rw [List.drop_nil, List.drop_nil]; exact .nil
  | _, _, .cons a b, 0 => .cons a b
  | _, _, .cons a b, n + 1 => by rw [List.drop_succ_cons, List.drop_succ_cons]; exact b.drop n
theorem Ats.set {H : Hp} {vs : List V} {ts : List Tr} {v : V} {t : Tr} {i : Nat} (h : Ats H vs ts) (ha : At H v t) (hi : i < vs.length) : Ats H (vs.take i ++ [v] ++ vs.drop (i + 1)) (ts.set i t) := by
  have hl := h.length
  rw [List.set_eq_take_append_cons_drop, if_pos (by omega), List.append_assoc]
  exact (h.take i).append (.cons ha (h.drop (i + 1)))
end Own

namespace Own
open PySem PySem.Spec PyProof.Rows L2
/-! ### tuples: sums and parts, told without their ways -/
theorem catA_go {K : PySem.W.Frag} {H : Hp} {a b : Addr} {xs ys : List V} {Q : VK} (ha : H a = some (.tup xs)) (hb : H b = some (.tup ys)) (hl : xs.length + ys.length ≤ 100000)
    (k : ∀ (p : Addr) (H' : Hp), Same H H' → H' p = some (.tup (xs ++ ys)) → Q (.ref p) H') : rCatA K (.ref a) (.ref b) H Q := by
  refine ⟨a, b, xs, ys, rfl, rfl, SqT.of ha, SqT.of hb, Nat.le_trans hl (by decide), fun h => ?_, fun _ h => ?_, fun _ _ p hp => ?_⟩
  · exact k b H (Same.refl H) (by rw [h]; exact hb)
  · exact k a H (Same.refl H) (by rw [h, List.append_nil]; exact ha)
  · exact k p _ (same_upd _ hp) upd_same
theorem cut_all {xs : List V} {lo hi : Option Int} (h : HT.sIx xs.length 0 lo = 0 ∧ HT.sIx xs.length xs.length hi = xs.length) : cutV xs lo hi = xs := by
  unfold cutV
  rw [h.1, h.2, List.drop_zero, Nat.sub_zero, List.take_length]
theorem slA_go {K : PySem.W.Frag} {H : Hp} {a : Addr} {xs : List V} {lo hi : Option Int} {Q : VK} (ha : H a = some (.tup xs))
    (k : ∀ (p : Addr) (H' : Hp), Same H H' → H' p = some (.tup (cutV xs lo hi)) → Q (.ref p) H') : rSlA K (.ref a) lo hi H Q := by
  refine ⟨a, xs, rfl, SqT.of ha, fun h => ?_, fun _ p hp => ?_⟩
  · exact k a H (Same.refl H) (by rw [cut_all h]; exact ha)
  · exact k p _ (same_upd _ hp) upd_same
/-- a part of a tuple up to a place, from a place on -/
theorem slA_to {K : PySem.W.Frag} {H : Hp} {a : Addr} {xs : List V} {n : Int} {Q : VK} (ha : H a = some (.tup xs)) (h0 : 0 ≤ n)
    (k : ∀ (p : Addr) (H' : Hp), Same H H' → H' p = some (.tup (xs.take n.toNat)) → Q (.ref p) H') : rSlA K (.ref a) none (some n) H Q :=
  slA_go ha fun p H' e h => k p H' e (by
    rw [h]
    obtain ⟨m, rfl⟩ : ∃ m : Nat, n = m := ⟨n.toNat, by omega⟩
    unfold cutV
    rw [HT.sIx_none, HT.sIx_nat, List.drop_zero, Int.toNat_natCast, Nat.sub_zero]
    congr 2
    rw [List.take_eq_take_iff]
    omega)
theorem slA_from {K : PySem.W.Frag} {H : Hp} {a : Addr} {xs : List V} {n : Int} {Q : VK} {σ : L2.St} (ha : H a = some (.tup xs)) (h0 : 0 ≤ n)
    (k : ∀ (p : Addr) (H' : Hp), Same H H' → H' p = some (.tup (xs.drop n.toNat)) → Q (.ref p) H') : tNoPart σ H fun u H3 => rSlA K (.ref a) (some n) u H3 Q :=
  show rSlA K (.ref a) (some n) none H Q from slA_go ha fun p H' e h => k p H' e (by
    rw [h]
    obtain ⟨m, rfl⟩ : ∃ m : Nat, n = m := ⟨n.toNat, by omega⟩
    unfold cutV
    rw [HT.sIx_none, HT.sIx_nat, Int.toNat_natCast, List.take_of_length_le (by rw [List.length_drop]; omega)]
    by_cases h : m ≤ xs.length
    · rw [Nat.min_eq_left h]
    · rw [Nat.min_eq_right (by omega), List.drop_length, List.drop_eq_nil_of_le (by omega)])
theorem depth_ints' : ∀ ms : List Int, PyData.depthAll (ms.map PyData.int) = 0
  | [] => by simp [PyData.depthAll]
  | m :: ms => by simp [PyData.depthAll, PyData.depth, depth_ints' ms]
theorem lay_ints' : ∀ ms : List Int, PyData.canLayAll0 (ms.map PyData.int) = true
  | [] => by simp [PyData.canLayAll0]
  | m :: ms => by simp [PyData.canLayAll0, PyData.canLay0, lay_ints' ms]
theorem shaped_tints (ms : List Int) : SeqAt.shaped (.tuple (ms.map PyData.int)) = true := by
  unfold SeqAt.shaped
  rw [Bool.and_eq_true]
  refine ⟨by rw [PyData.canLay0]; exact lay_ints' ms, decide_eq_true ?_⟩
  rw [PyData.depth, depth_ints']
  omega
theorem eqv_tnil (ms : List Int) : PyData.eqv (.tuple (ms.map PyData.int)) (.tuple []) = decide (ms = []) := by
  cases ms with
  | nil => simp [PyData.eqv, PyData.eqvAll]
  | cons m ms => simp [PyData.eqv, PyData.eqvAll]
theorem eqv_ints : ∀ as bs : List Int, PyData.eqvAll (as.map PyData.int) (bs.map PyData.int) = decide (as = bs)
  | [], [] => by simp [PyData.eqvAll]
  | [], _ :: _ => by simp [PyData.eqvAll]
  | _ :: _, [] => by simp [PyData.eqvAll]
  | a :: as, b :: bs => by
    rw [List.map_cons, List.map_cons, PyData.eqvAll, eqv_ints as bs, Bool.eq_iff_iff]
    simp [PyData.eqv]
theorem eqv_lints (as bs : List Int) : PyData.eqv (.list (as.map PyData.int)) (.list (bs.map PyData.int)) = decide (as = bs) := by
  rw [PyData.eqv, eqv_ints]
theorem eqv_tints (as bs : List Int) : PyData.eqv (.tuple (as.map PyData.int)) (.tuple (bs.map PyData.int)) = decide (as = bs) := by
  rw [PyData.eqv, eqv_ints]
/-- sorted, and in order already -/
theorem sorted_same {as bs : List Int} (h : bs.Perm as) (hs : bs.Pairwise (· ≤ ·)) : as = bs ↔ as.Pairwise (· ≤ ·) :=
  ⟨fun e => e ▸ hs, fun q => h.symm.eq_of_pairwise (fun a b _ _ h1 h2 => Int.le_antisymm h1 h2) q hs⟩
end Own

namespace Own
open PySem PySem.Spec PyProof.Rows L2
/-! ### rows of trees that share no button: their order doesn't count -/
theorem helds_perm {A B : List Tr} (h : A.Perm B) : (Tr.helds A).Perm (Tr.helds B) := perm_flat h
theorem one_of_helds : ∀ {F : List Tr}, (Tr.helds F).Nodup → ∀ {a b : Tr} {x : Int}, a ∈ F → b ∈ F → x ∈ a.held → x ∈ b.held → a = b
  | [], _, _, _, _, h, _, _, _ => nomatch h
  | p :: r, hn, a, b, x, ha, hb, xa, xb => by
    rw [Tr.helds, List.nodup_append] at hn
    obtain ⟨h1, h2, h3⟩ := hn
    have inr : ∀ q ∈ r, ∀ y ∈ q.held, y ∈ Tr.helds r := fun q hq y hy => by
      rw [helds_eq]
      exact List.mem_flatMap.mpr ⟨q, hq, hy⟩
    rcases List.mem_cons.mp ha with e1 | za
    · rcases List.mem_cons.mp hb with e2 | zb
      · rw [e1, e2]
      · exact absurd rfl (h3 x (e1 ▸ xa) x (inr b zb x xb))
    · rcases List.mem_cons.mp hb with e2 | zb
      · exact absurd rfl (h3 x (e2 ▸ xb) x (inr a za x xa))
      · exact one_of_helds h2 za zb xa xb
theorem sortT_perm {A B : List Tr} (h : A.Perm B) (hn : (Tr.helds A).Nodup) (ho : ∀ p ∈ A, p.ok) : sortT A = sortT B := by
  have pa := sort_perm A
  have pb := sort_perm B
  refine (pa.trans (h.trans pb.symm)).eq_of_pairwise (fun a b ha hb h1 h2 => ?_) (sort_pw A) (sort_pw B)
  have ha' : a ∈ A := pa.mem_iff.mp ha
  have hb' : b ∈ A := h.mem_iff.mpr (pb.mem_iff.mp hb)
  have e : a.least = b.least := Int.le_antisymm h1 h2
  exact one_of_helds hn ha' hb' (least_mem a (ho a ha')) (by rw [e]; exact least_mem b (ho b hb'))
theorem flat_ok {w : Wd} {A : List Tr} (ho : ∀ p ∈ A, p.ok) : ∀ p ∈ A.flatMap (gives w), p.ok := fun p hp => by
  obtain ⟨q, hq1, hq2⟩ := List.mem_flatMap.mp hp
  exact (gives_ok w (ho q hq1)).1 p hq2
theorem flat_nodup {w : Wd} {A : List Tr} (hn : (Tr.helds A).Nodup) : (Tr.helds (A.flatMap (gives w))).Nodup := by
  rw [helds_gives]
  exact hn
theorem fold_perm {k : Int} {A B : List Tr} (h : A.Perm B) (hn : (Tr.helds A).Nodup) (ho : ∀ p ∈ A, p.ok) : fold1 k A = fold1 k B := by
  by_cases one : A.length = 1
  · have two : B.length = 1 := by rw [← h.length_eq]; exact one
    match A, B, one, two, h with
    | [a], [b], _, _, h => rw [List.singleton_perm_singleton.mp h]
  · rw [fold_ne one, fold_ne (by rw [← h.length_eq]; exact one)]
    unfold joined
    have hl := h.length_eq
    have hf := h.flatMap_right (gives (wordOf k A.length))
    rw [sortT_perm hf (flat_nodup hn) (flat_ok ho), hf.length_eq, hl]
/-! ### trees dressed -/
mutual
inductive Dr : Tr → Tr → Prop
  | b (i : Int) : Dr (.b i) (.b i)
  | wrap {t u : Tr} : Dr t u → Dr t (.t 1 [u])
  | trip {k : Int} {ps ps' qs : List Tr} : ps.Perm ps' → Drs ps' qs → Dr (.t k ps) (.t k qs)
  | ones {ps ps' qs : List Tr} {c : Nat} : ps.Perm ps' → Drs ps' qs → 2 ≤ c → c < qs.length → Dr (.t 1 ps) (.t 1 (qs.drop c ++ [.t 1 (qs.take c)]))
  | alls {k : Int} {ps ps' qs : List Tr} {c : Nat} : ps.Perm ps' → Drs ps' qs → 2 ≤ c → c < qs.length → k = (ps.length : Int) → Dr (.t k ps) (.t (((qs.drop c ++ [Tr.t (c : Int) (qs.take c)]).length : Nat) : Int) (qs.drop c ++ [Tr.t (c : Int) (qs.take c)]))
inductive Drs : List Tr → List Tr → Prop
  | nil : Drs [] []
  | cons {p q : Tr} {ps qs : List Tr} : Dr p q → Drs ps qs → Drs (p :: ps) (q :: qs)
end
theorem Drs.len : ∀ {ps qs : List Tr}, Drs ps qs → ps.length = qs.length
  | _, _, .nil => rfl
  | _, _, .cons _ b => by rw [List.length_cons, List.length_cons, b.len]
theorem Drs.snoc : ∀ {ps qs : List Tr} {p q : Tr}, Drs ps qs → Dr p q → Drs (ps ++ [p]) (qs ++ [q])
  | _, _, _, _, .nil, h => .cons h .nil
  | _, _, _, _, .cons a b, h => .cons a (b.snoc h)
theorem helds_drop_take (qs : List Tr) (c : Nat) (k : Int) : (Tr.helds (qs.drop c ++ [.t k (qs.take c)])).Perm (Tr.helds qs) := by
  have : Tr.helds (qs.drop c ++ [.t k (qs.take c)]) = Tr.helds (qs.drop c) ++ Tr.helds (qs.take c) := by
    rw [helds_eq, List.flatMap_append, ← helds_eq, List.flatMap_cons, List.flatMap_nil, List.append_nil, Tr.held]
  rw [this]
  have h2 : (Tr.helds (qs.take c) ++ Tr.helds (qs.drop c)) = Tr.helds qs := by
    rw [helds_eq, helds_eq, helds_eq, ← List.flatMap_append, List.take_append_drop]
  rw [← h2]
  exact List.perm_append_comm
theorem tells_append (a b : List Tr) : tells (a ++ b) = tells a ++ tells b := by rw [tells_eq, tells_eq, tells_eq, List.map_append]
theorem oks_app {a b : List Tr} (ha : Tr.oks a) (hb : Tr.oks b) : Tr.oks (a ++ b) := oks_all.mpr fun p hp => (List.mem_append.mp hp).elim (oks_all.mp ha p) (oks_all.mp hb p)
theorem oks_part {a : List Tr} (h : Tr.oks a) (n : Nat) : Tr.oks (a.take n) ∧ Tr.oks (a.drop n) :=
  ⟨oks_all.mpr fun p hp => oks_all.mp h p (List.mem_of_mem_take hp), oks_all.mpr fun p hp => oks_all.mp h p (List.mem_of_mem_drop hp)⟩
mutual
theorem Dr.like : ∀ {t u : Tr}, Dr t u → t.ok → u.ok ∧ u.held.Perm t.held
  | _, _, .b i, h => ⟨h, List.Perm.refl _⟩
  | _, _, .wrap d, h => by
    obtain ⟨a, b⟩ := d.like h
    refine ⟨by rw [Tr.ok, Tr.oks, Tr.oks]; exact ⟨Int.le_refl _, Int.le_refl _, a, trivial⟩, ?_⟩
    rw [Tr.held, Tr.helds, Tr.helds, List.append_nil]
    exact b
  | _, _, .trip hp d, h => by
    rw [Tr.ok] at h
    have hl := d.len
    have ho : Tr.oks _ := oks_all.mpr fun p hp' => oks_all.mp h.2.2 p (hp.mem_iff.mpr hp')
    obtain ⟨a, b⟩ := d.likes ho
    refine ⟨by rw [Tr.ok, ← hl, ← hp.length_eq]; exact ⟨h.1, h.2.1, a⟩, ?_⟩
    rw [Tr.held, Tr.held]
    exact b.trans (helds_perm hp).symm
  | _, _, .ones (qs := qs) (c := c) hp d c2 cl, h => by
    rw [Tr.ok] at h
    have hl := d.len
    have ho : Tr.oks _ := oks_all.mpr fun p hp' => oks_all.mp h.2.2 p (hp.mem_iff.mpr hp')
    obtain ⟨a, b⟩ := d.likes ho
    obtain ⟨a1, a2⟩ := oks_part a c
    refine ⟨?_, ?_⟩
    · rw [Tr.ok, List.length_append, List.length_singleton]
      refine ⟨Int.le_refl _, by omega, oks_app a2 ?_⟩
      rw [Tr.oks, Tr.oks, Tr.ok, List.length_take]
      exact ⟨⟨Int.le_refl _, by omega, a1⟩, trivial⟩
    · rw [Tr.held, Tr.held]
      exact (helds_drop_take qs c 1).trans (b.trans (helds_perm hp).symm)
  | _, _, .alls (qs := qs) (c := c) hp d c2 cl hk, h => by
    rw [Tr.ok] at h
    have hl := d.len
    have ho : Tr.oks _ := oks_all.mpr fun p hp' => oks_all.mp h.2.2 p (hp.mem_iff.mpr hp')
    obtain ⟨a, b⟩ := d.likes ho
    obtain ⟨a1, a2⟩ := oks_part a c
    refine ⟨?_, ?_⟩
    · rw [Tr.ok]
      refine ⟨by rw [List.length_append, List.length_singleton]; omega, Int.le_refl _, oks_app a2 ?_⟩
      rw [Tr.oks, Tr.oks, Tr.ok, List.length_take]
      exact ⟨⟨by omega, by omega, a1⟩, trivial⟩
    · rw [Tr.held, Tr.held]
      exact (helds_drop_take qs c c).trans (b.trans (helds_perm hp).symm)
theorem Drs.likes : ∀ {ps qs : List Tr}, Drs ps qs → Tr.oks ps → Tr.oks qs ∧ (Tr.helds qs).Perm (Tr.helds ps)
  | _, _, .nil, h => ⟨h, List.Perm.refl _⟩
  | _, _, .cons d ds, h => by
    rw [Tr.oks] at h
    obtain ⟨a, b⟩ := d.like h.1
    obtain ⟨a', b'⟩ := ds.likes h.2
    rw [Tr.oks, Tr.helds, Tr.helds]
    exact ⟨⟨a, a'⟩, b.append b'⟩
end
theorem tells_ok {ps : List Tr} (h : Tr.oks ps) : (∀ p ∈ tells ps, p.ok) ∧ (Tr.helds (tells ps)).Perm (Tr.helds ps) := by
  obtain ⟨a, b, _⟩ := tells_like ps h
  exact ⟨a, b⟩
/-- parts of a one-of or an all-of put together -/
theorem group {w : Wd} {k k' c' : Int} {X : List Tr} {c : Nat} (hw : w ≠ .some) (c2 : 2 ≤ c) (cl : c < X.length) (hk : wordOf k X.length = w)
    (hc : wordOf c' c = w) (hk' : wordOf k' ((X.drop c).length + 1 : Nat) = w) (ho : ∀ p ∈ X, p.ok) (hn : (Tr.helds X).Nodup)
    (hkk : w = .one → k' = k) : fold1 k' (X.drop c ++ [joined c' (X.take c)]) = fold1 k X := by
  have l1 : (X.drop c ++ [joined c' (X.take c)]).length = (X.drop c).length + 1 := by rw [List.length_append, List.length_singleton]
  have ld : (X.drop c).length = X.length - c := List.length_drop
  have lt : (X.take c).length = c := by rw [List.length_take]; omega
  rw [fold_ne (by omega), fold_ne (by omega)]
  have hflat : (X.drop c ++ [joined c' (X.take c)]).flatMap (gives w) = (X.drop c).flatMap (gives w) ++ sortT ((X.take c).flatMap (gives w)) := by
    rw [List.flatMap_append, List.flatMap_cons, List.flatMap_nil, List.append_nil]
    congr 1
    unfold joined
    rw [lt, hc, gives_t, if_pos]
    refine ⟨hw, ?_⟩
    rw [(sort_perm _).length_eq]
    have hfl := flat_len (w := w) (l := X.take c) fun p hp => ho p (List.mem_of_mem_take hp)
    cases w with
    | some => exact absurd rfl hw
    | one =>
      rw [if_neg (by intro z; cases z), word_one hc]
      unfold wordOf
      rw [if_pos rfl]
    | all =>
      rw [if_pos rfl]
      unfold wordOf
      rw [if_neg (by omega), if_pos rfl]
  have hperm : ((X.drop c).flatMap (gives w) ++ sortT ((X.take c).flatMap (gives w))).Perm (X.flatMap (gives w)) := by
    refine ((sort_perm _).append_left _).trans (List.perm_append_comm.trans ?_)
    rw [← List.flatMap_append, List.take_append_drop]
  generalize joined c' (X.take c) = J at l1 hflat ⊢
  unfold joined
  rw [l1, hk', hflat, hk, hperm.length_eq, (sortT_perm hperm.symm (flat_nodup hn) (flat_ok ho)).symm]
  cases w with
  | some => exact absurd rfl hw
  | one => rw [hkk rfl]
  | all => rfl
mutual
theorem Dr.tell : ∀ {t u : Tr}, Dr t u → t.ok → t.held.Nodup → tell u = tell t
  | _, _, .b i, _, _ => rfl
  | _, _, .wrap (u := u) d, h, hn => by
    have := d.tell h hn
    rw [Own.tell, tells, tells, fold1]
    exact this
  | _, _, .trip (k := k) (ps := ps) (ps' := ps') (qs := qs) hp d, h, hn => by
    rw [Tr.ok] at h
    rw [Tr.held] at hn
    have ho' : Tr.oks ps' := oks_all.mpr fun p hp' => oks_all.mp h.2.2 p (hp.mem_iff.mpr hp')
    have hn' : (Tr.helds ps').Nodup := (helds_perm hp).nodup_iff.mp hn
    have := d.tells ho' hn'
    obtain ⟨o1, o2⟩ := tells_ok h.2.2
    rw [Own.tell, Own.tell, this]
    refine (fold_perm ?_ (o2.nodup_iff.mpr hn) o1).symm
    rw [tells_eq, tells_eq]
    exact hp.map _
  | _, _, .ones (ps := ps) (ps' := ps') (qs := qs) (c := c) hp d c2 cl, h, hn => by
    rw [Tr.ok] at h
    rw [Tr.held] at hn
    have hl := d.len
    have ho' : Tr.oks ps' := oks_all.mpr fun p hp' => oks_all.mp h.2.2 p (hp.mem_iff.mpr hp')
    have hn' : (Tr.helds ps').Nodup := (helds_perm hp).nodup_iff.mp hn
    have ht := d.tells ho' hn'
    obtain ⟨o1, o2⟩ := tells_ok h.2.2
    obtain ⟨o3, o4⟩ := tells_ok ho'
    have e1 : tells (qs.drop c ++ [.t 1 (qs.take c)]) = (tells ps').drop c ++ [joined 1 ((tells ps').take c)] := by
      rw [tells_append, tells, tells, Own.tell, ← ht, tells_eq, tells_eq, tells_eq, ← List.map_drop, ← List.map_take]
      rw [fold_ne (by rw [List.length_map, List.length_take]; omega)]
    have lx : (tells ps').length = qs.length := by rw [tells_len, hl]
    rw [Own.tell, Own.tell, e1]
    rw [group (w := .one) (k := 1) (by intro z; cases z) c2 (by omega) rfl rfl rfl o3 (o4.nodup_iff.mpr hn') fun _ => rfl]
    refine (fold_perm ?_ (o2.nodup_iff.mpr hn) o1).symm
    rw [tells_eq, tells_eq]
    exact hp.map _
  | _, _, .alls (k := k) (ps := ps) (ps' := ps') (qs := qs) (c := c) hp d c2 cl hk, h, hn => by
    rw [Tr.ok] at h
    rw [Tr.held] at hn
    have hl := d.len
    have ho' : Tr.oks ps' := oks_all.mpr fun p hp' => oks_all.mp h.2.2 p (hp.mem_iff.mpr hp')
    have hn' : (Tr.helds ps').Nodup := (helds_perm hp).nodup_iff.mp hn
    have ht := d.tells ho' hn'
    obtain ⟨o1, o2⟩ := tells_ok h.2.2
    obtain ⟨o3, o4⟩ := tells_ok ho'
    have e1 : tells (qs.drop c ++ [Tr.t (c : Int) (qs.take c)]) = (tells ps').drop c ++ [joined c ((tells ps').take c)] := by
      rw [tells_append, tells, tells, Own.tell, ← ht, tells_eq, tells_eq, tells_eq, ← List.map_drop, ← List.map_take]
      rw [fold_ne (by rw [List.length_map, List.length_take]; omega)]
    have lx : (tells ps').length = qs.length := by rw [tells_len, hl]
    have lp := hp.length_eq
    have wself : ∀ n : Nat, n ≠ 1 → wordOf n n = .all := fun n hn1 => by
      unfold wordOf
      rw [if_neg (by omega), if_pos rfl]
    have ll : (qs.drop c ++ [Tr.t (c : Int) (qs.take c)]).length = ((tells ps').drop c).length + 1 := by
      rw [List.length_append, List.length_singleton, List.length_drop, List.length_drop, lx]
    rw [Own.tell, Own.tell, e1, ll]
    rw [group (w := .all) (k := k) (by intro z; cases z) c2 (by omega) ?_ (wself c (by omega)) (wself _ ?_) o3 (o4.nodup_iff.mpr hn') fun z => nomatch z]
    · refine (fold_perm ?_ (o2.nodup_iff.mpr hn) o1).symm
      rw [tells_eq, tells_eq]
      exact hp.map _
    · rw [hk, lx, ← hl, ← lp]
      exact wself _ (by omega)
    · rw [List.length_drop]
      omega
theorem Drs.tells : ∀ {ps qs : List Tr}, Drs ps qs → Tr.oks ps → (Tr.helds ps).Nodup → tells qs = tells ps
  | _, _, .nil, _, _ => rfl
  | _, _, .cons d ds, h, hn => by
    rw [Tr.oks] at h
    rw [Tr.helds, List.nodup_append] at hn
    rw [Own.tells, Own.tells, d.tell h.1 hn.1, ds.tells h.2 hn.2.1]
end
end Own

namespace Own
open PySem PySem.Spec PyProof.Rows L2
/-! ### what is never reached; is True -/
/-- a bool, an int or a tracked thing -/
def tame : V → Bool
  | .bl _ => true
  | .int _ => true
  | .ref _ => true
  | _ => false
def rIsTrue : R2 := fun x y H Q => y = .bl true ∧ tame x = true ∧ Q (.bl (decide (x = .bl true))) H
theorem op_isTrue {X : Cx} : OpR X (compareOp .Is) rIsTrue := by
  intro pins s σ H x y v u Q I rx ry h
  obtain ⟨rfl, ht, q⟩ := h
  cases ry
  cases x with
  | bl b =>
    cases rx
    exact wpAny_is_plain rfl (fin_bl I q (by cases b <;> rfl))
  | int i =>
    obtain ⟨t, rfl⟩ := rx
    exact wpAny_is_plain rfl (fin_bl I q rfl)
  | ref a =>
    cases rx
    exact wpAny_is_plain rfl (fin_bl I q rfl)
  | _ => cases ht
/-! ### the set of a tuple of ints -/
def rSetTupI (K : PySem.W.Frag) (w : World) : List V → Hp → VK → Prop := fun xs H Q => ∃ (p : Addr) (ns : List Int), xs = [V.ref p] ∧ SqT K H p (ns.map V.int) ∧ ns.length ≤ 1000 ∧
  ∀ (a : Addr) (c : Nat), H a = none → c ≤ ns.length → Q (.ref a) (upd H a (SetO w a (fun j => decide (j ∈ ns)) c))
theorem cr_setTupI {X : Cx} (hc : X.calm = true) : CallR X (.type "set") (rSetTupI X.K X.w) := by
  intro pins s σ H xs us Q I r h
  obtain ⟨p, ns, rfl, hs, hb, q⟩ := h
  rw [Vals.ref1 r]
  obtain ⟨its, rv, ht, hz⟩ := I.tuple hs
  refine call_set_tupI ns (I.ok.hd hc) ht rv.ints (Nat.lt_of_le_of_lt (Nat.succ_le_succ hb) (by decide)) fun h' tk c R hcl keep => ?_
  exact ⟨.ref _, upd H s.heap.objs.size (SetO X.w s.heap.objs.size (fun j => decide (j ∈ ns)) c), I.laid (t' := tk) (fun b u e => keep b u e) (Nat.le_refl _) (setO_new R), rfl, q _ c (I.hok.fresh (Nat.le_refl _)) hcl⟩
end Own

namespace Own
open PySem PySem.Spec PyProof.Rows L2
/-! ### what is left of a tree -/
inductive Rs where
  | set (b : Bool)
  | un (t : Tr)
def openOf : List Rs → List Tr
  | [] => []
  | .set _ :: r => openOf r
  | .un t :: r => t :: openOf r
def doneOf : List Rs → Nat
  | [] => 0
  | .set true :: r => doneOf r + 1
  | .set false :: r => doneOf r
  | .un _ :: r => doneOf r
def closed (need : Int) (us : List Tr) : Rs := if need ≤ 0 then .set true else if need ≤ (us.length : Int) then .un (.t need us) else .set false
mutual
def rest (On Off : List Int) : Tr → Rs
  | .b i => if i ∈ On then .set true else if i ∈ Off then .set false else .un (.b i)
  | .t k ps => closed (k - doneOf (rests On Off ps)) (openOf (rests On Off ps))
def rests (On Off : List Int) : List Tr → List Rs
  | [] => []
  | p :: r => rest On Off p :: rests On Off r
end
def tellR : Rs → Rs
  | .set b => .set b
  | .un t => .un (tell t)
theorem rests_eq (On Off : List Int) : ∀ ps : List Tr, rests On Off ps = ps.map (rest On Off)
  | [] => by rw [rests]; rfl
  | p :: r => by rw [rests, rests_eq On Off r]; rfl
theorem rests_snoc (On Off : List Int) (ps : List Tr) (p : Tr) : rests On Off (ps ++ [p]) = rests On Off ps ++ [rest On Off p] := by rw [rests_eq, rests_eq, List.map_append]; rfl
theorem rests_len (On Off : List Int) (ps : List Tr) : (rests On Off ps).length = ps.length := by rw [rests_eq, List.length_map]
theorem openOf_app : ∀ a b : List Rs, openOf (a ++ b) = openOf a ++ openOf b
  | [], b => rfl
  | .set _ :: a, b => by rw [List.cons_append, openOf, openOf, openOf_app a b]
  | .un t :: a, b => by rw [List.cons_append, openOf, openOf, openOf_app a b]; rfl
theorem doneOf_app : ∀ a b : List Rs, doneOf (a ++ b) = doneOf a + doneOf b
  | [], b => by rw [List.nil_append, doneOf]; omega
  | .set true :: a, b => by rw [List.cons_append, doneOf, doneOf, doneOf_app a b]; omega
  | .set false :: a, b => by rw [List.cons_append, doneOf, doneOf, doneOf_app a b]
  | .un t :: a, b => by rw [List.cons_append, doneOf, doneOf, doneOf_app a b]
theorem openOf_len : ∀ a : List Rs, (openOf a).length ≤ a.length
  | [] => Nat.le_refl _
  | .set _ :: a => by rw [openOf, List.length_cons]; have := openOf_len a; omega
  | .un t :: a => by rw [openOf, List.length_cons, List.length_cons]; have := openOf_len a; omega
theorem doneOf_len : ∀ a : List Rs, doneOf a ≤ a.length
  | [] => Nat.le_refl _
  | .set true :: a => by rw [doneOf, List.length_cons]; have := doneOf_len a; omega
  | .set false :: a => by rw [doneOf, List.length_cons]; have := doneOf_len a; omega
  | .un t :: a => by rw [doneOf, List.length_cons]; have := doneOf_len a; omega
mutual
theorem rest_un {On Off : List Int} : ∀ {t u : Tr}, rest On Off t = .un u → u.ok ∧ u.deep ≤ t.deep ∧ u.held.Sublist t.held
  | .b i, u, h => by
    rw [rest] at h
    split at h
    · cases h
    · split at h
      · cases h
      · cases h
        exact ⟨by rw [Tr.ok]; trivial, Nat.le_refl _, List.Sublist.refl _⟩
  | .t k ps, u, h => by
    rw [rest] at h
    unfold closed at h
    split at h
    · cases h
    · split at h
      · cases h
        obtain ⟨a, b, c⟩ := rests_un (On := On) (Off := Off) ps
        refine ⟨by rw [Tr.ok]; exact ⟨by omega, by omega, a⟩, ?_, ?_⟩
        · rw [Tr.deep, Tr.deep]; omega
        · rw [Tr.held, Tr.held]; exact c
      · cases h
theorem rests_un {On Off : List Int} : ∀ ps : List Tr, Tr.oks (openOf (rests On Off ps)) ∧ Tr.deeps (openOf (rests On Off ps)) ≤ Tr.deeps ps ∧ (Tr.helds (openOf (rests On Off ps))).Sublist (Tr.helds ps)
  | [] => by
    rw [rests, openOf, Tr.oks, Tr.deeps]
    exact ⟨trivial, Nat.le_refl _, List.Sublist.refl _⟩
  | p :: r => by
    obtain ⟨a, b, c⟩ := rests_un (On := On) (Off := Off) r
    rw [rests, Tr.deeps, Tr.helds]
    cases h : rest On Off p with
    | set x =>
      rw [openOf]
      exact ⟨a, by omega, c.trans (List.sublist_append_right _ _)⟩
    | un u =>
      obtain ⟨a', b', c'⟩ := rest_un h
      rw [openOf, Tr.oks, Tr.deeps, Tr.helds]
      exact ⟨⟨a', a⟩, by omega, c'.append c⟩
end
/-! all buttons pressed or stuck: it is settled -/
mutual
theorem rest_all {On Off : List Int} : ∀ t : Tr, (∀ x ∈ t.held, x ∈ On ∨ x ∈ Off) → ∃ b, rest On Off t = .set b
  | .b i, h => by
    rw [rest]
    by_cases a : i ∈ On
    · rw [if_pos a]; exact ⟨_, rfl⟩
    · rw [if_neg a]
      rcases h i (by rw [Tr.held]; exact List.mem_singleton.mpr rfl) with z | z
      · exact absurd z a
      · rw [if_pos z]; exact ⟨_, rfl⟩
  | .t k ps, h => by
    rw [Tr.held] at h
    rw [rest, rests_all ps h]
    unfold closed
    split
    · exact ⟨_, rfl⟩
    · split
      · rename_i a b
        exact absurd b (by simp only [List.length_nil]; omega)
      · exact ⟨_, rfl⟩
theorem rests_all {On Off : List Int} : ∀ ps : List Tr, (∀ x ∈ Tr.helds ps, x ∈ On ∨ x ∈ Off) → openOf (rests On Off ps) = []
  | [], _ => by rw [rests, openOf]
  | p :: r, h => by
    rw [Tr.helds] at h
    obtain ⟨b, e⟩ := rest_all p fun x hx => h x (List.mem_append_left _ hx)
    rw [rests, e, openOf]
    exact rests_all r fun x hx => h x (List.mem_append_right _ hx)
end
mutual
theorem rest_perm {On On' Off Off' : List Int} (h1 : On.Perm On') (h2 : Off.Perm Off') : ∀ t : Tr, rest On Off t = rest On' Off' t
  | .b i => by rw [rest, rest]; simp only [h1.mem_iff, h2.mem_iff]
  | .t k ps => by rw [rest, rest, rests_perm h1 h2 ps]
theorem rests_perm {On On' Off Off' : List Int} (h1 : On.Perm On') (h2 : Off.Perm Off') : ∀ ps : List Tr, rests On Off ps = rests On' Off' ps
  | [] => by rw [rests, rests]
  | p :: r => by rw [rests, rests, rest_perm h1 h2 p, rests_perm h1 h2 r]
end
/-! how it lies in the heap -/
def AtR (H : Hp) (v : V) : Rs → Prop
  | .set b => v = .bl b
  | .un t => At H v t
inductive AtRs (H : Hp) : List V → List Rs → Prop
  | nil : AtRs H [] []
  | cons {v r vs rs} : AtR H v r → AtRs H vs rs → AtRs H (v :: vs) (r :: rs)
theorem AtR.mono {H H' : Hp} (e : KT H H') {v : V} {r : Rs} (h : AtR H v r) : AtR H' v r := by
  cases r with
  | set b => exact h
  | un t => exact At.mono e h
theorem AtR.same {H H' : Hp} (e : Same H H') {v : V} {r : Rs} (h : AtR H v r) : AtR H' v r := h.mono (KT.of e)
theorem AtRs.mono {H H' : Hp} (e : KT H H') : ∀ {vs : List V} {rs : List Rs}, AtRs H vs rs → AtRs H' vs rs
  | _, _, .nil => .nil
  | _, _, .cons a b => .cons (a.mono e) (b.mono e)
theorem AtRs.length {H : Hp} : ∀ {vs : List V} {rs : List Rs}, AtRs H vs rs → vs.length = rs.length
  | _, _, .nil => rfl
  | _, _, .cons _ b => by rw [List.length_cons, List.length_cons, b.length]
theorem AtRs.append {H : Hp} : ∀ {vs us : List V} {rs ss : List Rs}, AtRs H vs rs → AtRs H us ss → AtRs H (vs ++ us) (rs ++ ss)
  | _, _, _, _, .nil, h => h
  | _, _, _, _, .cons a b, h => .cons a (b.append h)
theorem AtRs.get {H : Hp} : ∀ {vs : List V} {rs : List Rs} {i : Nat} {v : V}, AtRs H vs rs → vs[i]? = some v → ∃ r, rs[i]? = some r ∧ AtR H v r
  | _, _, _, _, .nil, e => by simp at e
  | _, _, 0, _, .cons h1 _, e => by
    simp at e
    subst e
    exact ⟨_, rfl, h1⟩
  | _, _, i + 1, _, .cons _ h2, e => by
    obtain ⟨r, e1, h⟩ := AtRs.get (i := i) h2 (by simpa using e)
    exact ⟨r, by simpa using e1, h⟩
def Rs.isSet : Rs → Bool
  | .set _ => true
  | .un _ => false
theorem AtR.kind {K : PySem.W.Frag} {H : Hp} {v : V} {r : Rs} (h : AtR H v r) : ∃ ty : String, TyX K H v (.type ty) ∧ kitB ty "bool" = some r.isSet := by
  cases r with
  | set b =>
    cases (show v = .bl b from h)
    exact ⟨"bool", .base (.bl b), (by decide +kernel : kitB "bool" "bool" = some true)⟩
  | un t =>
    cases (show At H v t from h) with
    | b i => exact ⟨"int", .base (.int i), (by decide +kernel : kitB "int" "bool" = some false)⟩
    | t h1 _ _ _ => exact ⟨"tuple", .base (.tup h1), (by decide +kernel : kitB "tuple" "bool" = some false)⟩
theorem AtR.tame {H : Hp} {v : V} {r : Rs} (h : AtR H v r) : tame v = true := by
  cases r with
  | set b => cases (show v = .bl b from h); rfl
  | un t => cases (show At H v t from h) <;> rfl
def Rs.isDone : Rs → Bool
  | .set b => b
  | .un _ => false
theorem AtR.is {H : Hp} {v : V} {r : Rs} (h : AtR H v r) : decide (v = .bl true) = r.isDone := by
  cases r with
  | set b =>
    cases (show v = .bl b from h)
    show decide (V.bl b = V.bl true) = b
    cases b <;> decide
  | un t => cases (show At H v t from h) <;> exact decide_eq_false (by intro z; cases z)
theorem doneOf_snoc (a : List Rs) (r : Rs) : doneOf (a ++ [r]) = doneOf a + (if r.isDone = true then 1 else 0) := by
  rw [doneOf_app]
  cases r with
  | set b => cases b <;> rfl
  | un t => rfl
theorem openOf_snoc (a : List Rs) (r : Rs) : openOf (a ++ [r]) = openOf a ++ (match r with | .set _ => [] | .un t => [t]) := by
  rw [openOf_app]
  cases r <;> rfl
def Rs.d : Rs → PyData
  | .set b => .bool b
  | .un t => t.d
theorem AtR.dp {K : PySem.W.Frag} {H : Hp} {v : V} {r : Rs} (h : AtR H v r) : Dp K H v r.d := by
  cases r with
  | set b => cases (show v = .bl b from h); exact .bl b
  | un t => exact At.dp h
end Own

namespace Own
open PySem PySem.Spec PyProof.Rows L2
/-! ### trees as functions of what is pressed -/
mutual
def gp (S : Int → Bool) : Tr → Bool
  | .b i => S i
  | .t k ps => decide (k ≤ (cp S ps : Int))
def cp (S : Int → Bool) : List Tr → Nat
  | [] => 0
  | p :: r => (if gp S p = true then 1 else 0) + cp S r
end
mutual
theorem go_gp (L : List Int) : ∀ t : Tr, t.go L = gp (fun i => decide (i ∈ L)) t
  | .b i => by rw [Tr.go, gp]
  | .t k ps => by rw [Tr.go, gp, cnt_cp L ps]
theorem cnt_cp (L : List Int) : ∀ ps : List Tr, Tr.cnt L ps = cp (fun i => decide (i ∈ L)) ps
  | [] => by rw [Tr.cnt, cp]
  | p :: r => by rw [Tr.cnt, cp, go_gp L p, cnt_cp L r]
end
mutual
theorem gp_congr {S R : Int → Bool} : ∀ t : Tr, (∀ x ∈ t.held, S x = R x) → gp S t = gp R t
  | .b i, h => by rw [gp, gp, h i (by rw [Tr.held]; exact List.mem_singleton.mpr rfl)]
  | .t k ps, h => by rw [gp, gp, cp_congr ps (by rw [Tr.held] at h; exact h)]
theorem cp_congr {S R : Int → Bool} : ∀ ps : List Tr, (∀ x ∈ Tr.helds ps, S x = R x) → cp S ps = cp R ps
  | [], _ => by rw [cp, cp]
  | p :: r, h => by
    rw [Tr.helds] at h
    rw [cp, cp, gp_congr p fun x hx => h x (List.mem_append_left _ hx), cp_congr r fun x hx => h x (List.mem_append_right _ hx)]
end
theorem cp_app (S : Int → Bool) : ∀ a b : List Tr, cp S (a ++ b) = cp S a + cp S b
  | [], b => by rw [List.nil_append, cp]; omega
  | p :: a, b => by rw [List.cons_append, cp, cp, cp_app S a b]; omega
theorem cp_eq (S : Int → Bool) : ∀ ps : List Tr, cp S ps = (ps.filter fun p => gp S p).length
  | [] => by rw [cp]; rfl
  | p :: r => by
    rw [cp, cp_eq S r, List.filter_cons]
    split <;> simp <;> omega
theorem cp_perm (S : Int → Bool) {a b : List Tr} (h : a.Perm b) : cp S a = cp S b := by
  rw [cp_eq, cp_eq, (h.filter _).length_eq]
theorem cp_le (S : Int → Bool) (ps : List Tr) : cp S ps ≤ ps.length := by
  rw [cp_eq]
  exact List.length_filter_le _ _
mutual
theorem gp_on {S : Int → Bool} : ∀ t : Tr, t.ok → (∀ x ∈ t.held, S x = true) → gp S t = true
  | .b i, _, h => by rw [gp]; exact h i (by rw [Tr.held]; exact List.mem_singleton.mpr rfl)
  | .t k ps, o, h => by
    rw [Tr.ok] at o
    rw [gp, cp_on ps o.2.2 (by rw [Tr.held] at h; exact h)]
    exact decide_eq_true o.2.1
theorem cp_on {S : Int → Bool} : ∀ ps : List Tr, Tr.oks ps → (∀ x ∈ Tr.helds ps, S x = true) → cp S ps = ps.length
  | [], _, _ => by rw [cp]; rfl
  | p :: r, o, h => by
    rw [Tr.oks] at o
    rw [Tr.helds] at h
    rw [cp, gp_on p o.1 fun x hx => h x (List.mem_append_left _ hx), cp_on r o.2 fun x hx => h x (List.mem_append_right _ hx), List.length_cons]
    simp
    omega
end
mutual
theorem gp_off {S : Int → Bool} : ∀ t : Tr, t.ok → (∀ x ∈ t.held, S x = false) → gp S t = false
  | .b i, _, h => by rw [gp]; exact h i (by rw [Tr.held]; exact List.mem_singleton.mpr rfl)
  | .t k ps, o, h => by
    rw [Tr.ok] at o
    rw [gp, cp_off ps o.2.2 (by rw [Tr.held] at h; exact h)]
    exact decide_eq_false (by omega)
theorem cp_off {S : Int → Bool} : ∀ ps : List Tr, Tr.oks ps → (∀ x ∈ Tr.helds ps, S x = false) → cp S ps = 0
  | [], _, _ => by rw [cp]
  | p :: r, o, h => by
    rw [Tr.oks] at o
    rw [Tr.helds] at h
    rw [cp, gp_off p o.1 fun x hx => h x (List.mem_append_left _ hx), cp_off r o.2 fun x hx => h x (List.mem_append_right _ hx)]
    rfl
end
/-! buttons put -/
def wi (S : Int → Bool) (x : Int) : Int → Bool := fun i => decide (i = x) || S i
theorem wi_same (S : Int → Bool) (x : Int) : wi S x x = true := by simp [wi]
theorem wi_ne {S : Int → Bool} {x i : Int} (h : i ≠ x) : wi S x i = S i := by simp [wi, h]
/-- so many of the parts pressed whole, all others not at all -/
def firstOn (R : List Tr) (m : Nat) : Int → Bool := fun i => decide (i ∈ Tr.helds (R.take m))
theorem helds_take_drop (R : List Tr) (m : Nat) : Tr.helds R = Tr.helds (R.take m) ++ Tr.helds (R.drop m) := by
  rw [helds_eq, helds_eq, helds_eq, ← List.flatMap_append, List.take_append_drop]
theorem cp_first {R : List Tr} {m : Nat} (o : Tr.oks R) (n : (Tr.helds R).Nodup) (hm : m ≤ R.length) {S : Int → Bool} (hS : ∀ x ∈ Tr.helds R, S x = firstOn R m x) : cp S R = m := by
  rw [cp_congr R hS]
  obtain ⟨o1, o2⟩ := oks_part o m
  have e : cp (firstOn R m) R = cp (firstOn R m) (R.take m) + cp (firstOn R m) (R.drop m) := by rw [← cp_app, List.take_append_drop]
  rw [e, cp_on (S := firstOn R m) _ o1 fun x hx => decide_eq_true hx, cp_off (S := firstOn R m) _ o2 fun x hx => ?_, List.length_take]
  · omega
  · rw [helds_take_drop R m] at n
    exact decide_eq_false fun q => (List.nodup_append.mp n).2.2 x q x hx rfl
theorem first_block {R : List Tr} (n : (Tr.helds R).Nodup) (m : Nat) {p : Tr} (hp : p ∈ R) : (∀ x ∈ p.held, firstOn R m x = true) ∨ ∀ x ∈ p.held, firstOn R m x = false := by
  rw [helds_take_drop R m] at n
  have hp' : p ∈ R.take m ++ R.drop m := by rw [List.take_append_drop]; exact hp
  rcases List.mem_append.mp hp' with h | h
  · refine .inl fun x hx => decide_eq_true ?_
    rw [helds_eq]
    exact List.mem_flatMap.mpr ⟨p, h, hx⟩
  · refine .inr fun x hx => decide_eq_false fun q => (List.nodup_append.mp n).2.2 x q x ?_ rfl
    rw [helds_eq]
    exact List.mem_flatMap.mpr ⟨p, h, hx⟩
theorem one_of {p : Tr} {ps : List Tr} (h : p ∈ ps) : ∃ R, ps.Perm (p :: R) := by
  obtain ⟨A, B, rfl⟩ := List.append_of_mem h
  exact ⟨A ++ B, List.perm_middle⟩
theorem two_of {p q : Tr} {ps : List Tr} (hp : p ∈ ps) (hq : q ∈ ps) (ne : p ≠ q) : ∃ R, ps.Perm (p :: q :: R) := by
  obtain ⟨R, h⟩ := one_of hp
  have : q ∈ p :: R := h.mem_iff.mp hq
  rcases List.mem_cons.mp this with e | e
  · exact absurd e.symm ne
  · obtain ⟨R', h'⟩ := one_of e
    exact ⟨R', h.trans (h'.cons p)⟩
theorem three_of {p q r : Tr} {ps : List Tr} (hp : p ∈ ps) (hq : q ∈ ps) (hr : r ∈ ps) (n1 : p ≠ q) (n2 : p ≠ r) (n3 : q ≠ r) : ∃ R, ps.Perm (p :: q :: r :: R) := by
  obtain ⟨R, h⟩ := two_of hp hq n1
  have : r ∈ p :: q :: R := h.mem_iff.mp hr
  rcases List.mem_cons.mp this with e | e
  · exact absurd e.symm n2
  · rcases List.mem_cons.mp e with e | e
    · exact absurd e.symm n3
    · obtain ⟨R', h'⟩ := one_of e
      exact ⟨R', h.trans ((h'.cons q).cons p)⟩
theorem apart {ps : List Tr} {p : Tr} {R : List Tr} (h : ps.Perm (p :: R)) (n : (Tr.helds ps).Nodup) : p.held.Nodup ∧ (Tr.helds R).Nodup ∧ ∀ x ∈ p.held, x ∉ Tr.helds R := by
  have := (helds_perm h).nodup_iff.mp n
  rw [Tr.helds, List.nodup_append] at this
  exact ⟨this.1, this.2.1, fun x h1 h2 => this.2.2 x h1 x h2 rfl⟩
theorem oks_perm {a b : List Tr} (h : a.Perm b) (o : Tr.oks a) : Tr.oks b := oks_all.mpr fun p hp => oks_all.mp o p (h.mem_iff.mpr hp)
/-! a function on a part, so many of the others on -/
def mix (p : Tr) (S R : Int → Bool) : Int → Bool := fun i => if i ∈ p.held then S i else R i
theorem mix_in {p : Tr} {S R : Int → Bool} {i : Int} (h : i ∈ p.held) : mix p S R i = S i := by unfold mix; rw [if_pos h]
theorem mix_out {p : Tr} {S R : Int → Bool} {i : Int} (h : i ∉ p.held) : mix p S R i = R i := by unfold mix; rw [if_neg h]
theorem gp_mix (p : Tr) (S R : Int → Bool) : gp (mix p S R) p = gp S p := gp_congr p fun x hx => mix_in hx
theorem cp_mix {p : Tr} {S R : Int → Bool} {qs : List Tr} (h : ∀ x ∈ p.held, x ∉ Tr.helds qs) : cp (mix p S R) qs = cp R qs := cp_congr qs fun x hx => mix_out fun q => h x q hx
theorem gp_part {k : Int} {ps : List Tr} {p : Tr} {R : List Tr} (h : ps.Perm (p :: R)) (o : Tr.oks ps) (n : (Tr.helds ps).Nodup) (hk : 1 ≤ k) (hl : k ≤ ps.length) (S : Int → Bool) :
    gp (mix p S (firstOn R (k - 1).toNat)) (.t k ps) = gp S p := by
  obtain ⟨n1, n2, n3⟩ := apart h n
  have oR := oks_perm h o
  rw [Tr.oks] at oR
  have hlen := h.length_eq
  rw [List.length_cons] at hlen
  rw [gp, cp_perm _ h, cp, gp_mix, cp_mix n3, cp_first oR.2 n2 (by omega) fun x _ => rfl]
  cases gp S p with
  | true => exact decide_eq_true (by simp; omega)
  | false => exact decide_eq_false (by simp; omega)
/-! each button matters -/
def Ess (t : Tr) (x : Int) : Prop := ∃ S : Int → Bool, gp S t = false ∧ gp (wi S x) t = true
theorem wi_mix {p : Tr} {S R : Int → Bool} {x : Int} (h : x ∈ p.held) : wi (mix p S R) x = mix p (wi S x) R := by
  funext i
  unfold wi mix
  by_cases e : i = x
  · subst e
    simp [h]
  · simp [e]
mutual
theorem ess : ∀ t : Tr, t.ok → t.held.Nodup → ∀ x ∈ t.held, Ess t x
  | .b i, _, _, x, hx => by
    rw [Tr.held, List.mem_singleton] at hx
    subst hx
    exact ⟨fun _ => false, by rw [gp], by rw [gp]; exact wi_same _ _⟩
  | .t k ps, o, n, x, hx => by
    rw [Tr.ok] at o
    rw [Tr.held] at n hx
    obtain ⟨p, hp, hxp, S, h1, h2⟩ := esss ps o.2.2 n x hx
    obtain ⟨R, hR⟩ := one_of hp
    refine ⟨mix p S (firstOn R (k - 1).toNat), ?_, ?_⟩
    · rw [gp_part hR o.2.2 n o.1 o.2.1]; exact h1
    · rw [wi_mix hxp, gp_part hR o.2.2 n o.1 o.2.1]; exact h2
theorem esss : ∀ ps : List Tr, Tr.oks ps → (Tr.helds ps).Nodup → ∀ x ∈ Tr.helds ps, ∃ p ∈ ps, x ∈ p.held ∧ Ess p x
  | [], _, _, x, hx => by rw [Tr.helds] at hx; cases hx
  | p :: r, o, n, x, hx => by
    rw [Tr.oks] at o
    rw [Tr.helds, List.nodup_append] at n
    rw [Tr.helds] at hx
    rcases List.mem_append.mp hx with z | z
    · exact ⟨p, List.mem_cons_self, z, ess p o.1 n.1 x z⟩
    · obtain ⟨q, h1, h2⟩ := esss r o.2 n.2.1 x z
      exact ⟨q, List.mem_cons_of_mem _ h1, h2⟩
end
theorem wi_out {t : Tr} {S : Int → Bool} {x : Int} (h : x ∉ t.held) : gp (wi S x) t = gp S t := gp_congr t fun i hi => wi_ne fun e => h (e ▸ hi)
theorem held_same {s t : Tr} (o : s.ok) (n : s.held.Nodup) (h : ∀ S, gp S s = gp S t) : ∀ x ∈ s.held, x ∈ t.held := fun x hx => by
  obtain ⟨S, h1, h2⟩ := ess s o n x hx
  refine Decidable.byContradiction fun q => ?_
  rw [h] at h1 h2
  rw [wi_out q, h1] at h2
  cases h2
/-! two buttons, three buttons -/
def And2 (t : Tr) (x y : Int) : Prop := ∃ S : Int → Bool, gp (wi (wi S x) y) t = true ∧ gp (wi S x) t = false ∧ gp (wi S y) t = false
def Maj3 (t : Tr) (x y z : Int) : Prop := ∃ S : Int → Bool, gp (wi S x) t = false ∧ gp (wi S y) t = false ∧ gp (wi S z) t = false ∧ gp (wi (wi S x) y) t = true ∧ gp (wi (wi S x) z) t = true ∧ gp (wi (wi S y) z) t = true
theorem and_lift {k : Int} {ps : List Tr} {p : Tr} (hp : p ∈ ps) (o : Tr.oks ps) (n : (Tr.helds ps).Nodup) (hk : 1 ≤ k) (hl : k ≤ ps.length) {x y : Int} (hx : x ∈ p.held) (hy : y ∈ p.held) (h : And2 p x y) : And2 (.t k ps) x y := by
  obtain ⟨R, hR⟩ := one_of hp
  obtain ⟨S, h1, h2, h3⟩ := h
  refine ⟨mix p S (firstOn R (k - 1).toNat), ?_, ?_, ?_⟩
  · rw [wi_mix hx, wi_mix hy, gp_part hR o n hk hl]; exact h1
  · rw [wi_mix hx, gp_part hR o n hk hl]; exact h2
  · rw [wi_mix hy, gp_part hR o n hk hl]; exact h3
theorem wi_mix_out {p : Tr} {S R : Int → Bool} {x : Int} (h : x ∉ p.held) : wi (mix p S R) x = mix p S (wi R x) := by
  funext i
  unfold wi mix
  by_cases e : i = x
  · subst e
    simp [h]
  · simp [e]
theorem wi_first {R : List Tr} {m : Nat} {x i : Int} (hx : x ∉ Tr.helds R) (hi : i ∈ Tr.helds R) : wi (firstOn R m) x i = firstOn R m i := wi_ne fun e => hx (e ▸ hi)
/-- two parts, so many of the others on -/
theorem cp_two {p q : Tr} {R : List Tr} {m : Nat} (o : Tr.oks (p :: q :: R)) (n : (Tr.helds (p :: q :: R)).Nodup) (hm : m ≤ R.length) (S1 S2 : Int → Bool) :
    cp (mix p S1 (mix q S2 (firstOn R m))) (p :: q :: R) = (if gp S1 p = true then 1 else 0) + ((if gp S2 q = true then 1 else 0) + m) := by
  rw [Tr.helds, Tr.helds, List.nodup_append, List.nodup_append] at n
  rw [Tr.oks, Tr.oks] at o
  obtain ⟨n1, ⟨n2, n3, n4⟩, n5⟩ := n
  have d1 : ∀ x ∈ p.held, x ∉ q.held := fun x a b => n5 x a x (List.mem_append_left _ b) rfl
  have d2 : ∀ x ∈ p.held, x ∉ Tr.helds R := fun x a b => n5 x a x (List.mem_append_right _ b) rfl
  have d3 : ∀ x ∈ q.held, x ∉ Tr.helds R := fun x a b => n4 x a x b rfl
  rw [cp, cp, gp_mix, cp_mix d2, cp_mix d3, cp_first o.2.2 n3 hm fun x _ => rfl]
  congr 1
  congr 1
  have : gp (mix p S1 (mix q S2 (firstOn R m))) q = gp S2 q := by
    rw [← gp_mix q S2 (firstOn R m)]
    exact gp_congr q fun x hx => mix_out fun z => d1 x z hx
  rw [this]
theorem and_cross {k : Int} {ps : List Tr} {p q : Tr} (hp : p ∈ ps) (hq : q ∈ ps) (ne : p ≠ q) (o : Tr.oks ps) (n : (Tr.helds ps).Nodup) (hk : 2 ≤ k) (hl : k ≤ ps.length) {x y : Int} (hx : x ∈ p.held) (hy : y ∈ q.held) : And2 (.t k ps) x y := by
  obtain ⟨R, hR⟩ := two_of hp hq ne
  have o' := oks_perm hR o
  have n' := (helds_perm hR).nodup_iff.mp n
  have hlen := hR.length_eq
  rw [List.length_cons, List.length_cons] at hlen
  have np : p.held.Nodup ∧ q.held.Nodup ∧ y ∉ p.held ∧ x ∉ q.held := by
    rw [Tr.helds, Tr.helds, List.nodup_append, List.nodup_append] at n'
    exact ⟨n'.1, n'.2.1.1, fun z => n'.2.2 y z y (List.mem_append_left _ hy) rfl, fun z => n'.2.2 x hx x (List.mem_append_left _ z) rfl⟩
  obtain ⟨S1, a1, a2⟩ := ess p (oks_all.mp o p hp) np.1 x hx
  obtain ⟨S2, b1, b2⟩ := ess q (oks_all.mp o q hq) np.2.1 y hy
  have wx : ∀ A B : Int → Bool, wi (mix p A (mix q B (firstOn R (k - 2).toNat))) x = mix p (wi A x) (mix q B (firstOn R (k - 2).toNat)) := fun A B => wi_mix hx
  have wy : ∀ A B : Int → Bool, wi (mix p A (mix q B (firstOn R (k - 2).toNat))) y = mix p A (mix q (wi B y) (firstOn R (k - 2).toNat)) := fun A B => by rw [wi_mix_out np.2.2.1, wi_mix hy]
  refine ⟨mix p S1 (mix q S2 (firstOn R (k - 2).toNat)), ?_, ?_, ?_⟩
  · rw [wx, wy, gp, cp_perm _ hR, cp_two o' n' (by omega), a2, b2]
    exact decide_eq_true (by simp; omega)
  · rw [wx, gp, cp_perm _ hR, cp_two o' n' (by omega), a2, b1]
    exact decide_eq_false (by simp; omega)
  · rw [wy, gp, cp_perm _ hR, cp_two o' n' (by omega), a1, b2]
    exact decide_eq_false (by simp; omega)
/-- a one-of: no two buttons of two parts are wanted both -/
theorem no_and {ps : List Tr} {p q : Tr} (hp : p ∈ ps) (hq : q ∈ ps) (ne : p ≠ q) (n : (Tr.helds ps).Nodup) {x y : Int} (hx : x ∈ p.held) (hy : y ∈ q.held) : ¬ And2 (.t 1 ps) x y := by
  rintro ⟨S, h1, h2, h3⟩
  obtain ⟨R, hR⟩ := two_of hp hq ne
  have n' := (helds_perm hR).nodup_iff.mp n
  rw [Tr.helds, Tr.helds, List.nodup_append, List.nodup_append] at n'
  have y1 : y ∉ p.held := fun z => n'.2.2 y z y (List.mem_append_left _ hy) rfl
  have x1 : x ∉ q.held := fun z => n'.2.2 x hx x (List.mem_append_left _ z) rfl
  have yR : y ∉ Tr.helds R := fun z => n'.2.1.2.2 y hy y z rfl
  rw [gp, cp_perm _ hR, cp, cp] at h1 h2 h3
  have h1 := of_decide_eq_true h1
  have h2 := of_decide_eq_false h2
  have h3 := of_decide_eq_false h3
  rw [wi_out y1] at h1
  have e2 : gp (wi (wi S x) y) q = gp (wi S y) q := gp_congr q fun i hi => by
    have : i ≠ x := fun e => x1 (e ▸ hi)
    simp [wi, this]
  have e3 : cp (wi (wi S x) y) R = cp (wi S x) R := cp_congr R fun i hi => wi_ne fun e => yR (e ▸ hi)
  rw [e2, e3] at h1
  omega
/-- two of one part, one of another: no majority -/
theorem no_maj {k : Int} {ps : List Tr} {p q : Tr} (hp : p ∈ ps) (hq : q ∈ ps) (ne : p ≠ q) (n : (Tr.helds ps).Nodup) {x y z : Int} (hx : x ∈ p.held) (hy : y ∈ p.held) (hz : z ∈ q.held) : ¬ Maj3 (.t k ps) x y z := by
  rintro ⟨S, h1, h2, h3, h4, h5, h6⟩
  obtain ⟨R, hR⟩ := two_of hp hq ne
  have n' := (helds_perm hR).nodup_iff.mp n
  rw [Tr.helds, Tr.helds, List.nodup_append, List.nodup_append] at n'
  have z1 : z ∉ p.held := fun w => n'.2.2 z w z (List.mem_append_left _ hz) rfl
  have x1 : x ∉ q.held := fun w => n'.2.2 x hx x (List.mem_append_left _ w) rfl
  have y1 : y ∉ q.held := fun w => n'.2.2 y hy y (List.mem_append_left _ w) rfl
  have xR : x ∉ Tr.helds R := fun w => n'.2.2 x hx x (List.mem_append_right _ w) rfl
  have yR : y ∉ Tr.helds R := fun w => n'.2.2 y hy y (List.mem_append_right _ w) rfl
  have zR : z ∉ Tr.helds R := fun w => n'.2.1.2.2 z hz z w rfl
  have cR : ∀ (A : Int → Bool) (u : Int), u ∉ Tr.helds R → cp (wi A u) R = cp A R := fun A u hu => cp_congr R fun i hi => wi_ne fun e => hu (e ▸ hi)
  rw [gp, cp_perm _ hR, cp, cp] at h1 h3 h4 h5
  have h1 := of_decide_eq_false h1
  have h3 := of_decide_eq_false h3
  have h4 := of_decide_eq_true h4
  have h5 := of_decide_eq_true h5
  rw [wi_out x1, cR _ _ xR] at h1
  rw [wi_out z1, cR _ _ zR] at h3
  rw [wi_out y1, wi_out x1, cR _ _ yR, cR _ _ xR] at h4
  rw [wi_out z1, cR _ _ zR, cR _ _ xR] at h5
  have e5 : gp (wi (wi S x) z) q = gp (wi S z) q := gp_congr q fun i hi => by
    have : i ≠ x := fun e => x1 (e ▸ hi)
    simp [wi, this]
  rw [e5] at h5
  have t1 : (if gp (wi (wi S x) y) p = true then 1 else 0) ≤ 1 := by split <;> omega
  have t2 : (if gp (wi S x) p = true then 1 else 0) = 0 ∨ (if gp (wi S x) p = true then 1 else 0) = 1 := by split <;> omega
  have t3 : (if gp S p = true then 1 else 0) = 0 ∨ (if gp S p = true then 1 else 0) = 1 := by split <;> omega
  omega
theorem cp_three {p q r : Tr} {R : List Tr} {m : Nat} (o : Tr.oks (p :: q :: r :: R)) (n : (Tr.helds (p :: q :: r :: R)).Nodup) (hm : m ≤ R.length) (S1 S2 S3 : Int → Bool) :
    cp (mix p S1 (mix q S2 (mix r S3 (firstOn R m)))) (p :: q :: r :: R) = (if gp S1 p = true then 1 else 0) + ((if gp S2 q = true then 1 else 0) + ((if gp S3 r = true then 1 else 0) + m)) := by
  have n0 := n
  rw [Tr.helds, List.nodup_append] at n
  have o0 := o
  rw [Tr.oks] at o
  have d1 : ∀ x ∈ p.held, x ∉ Tr.helds (q :: r :: R) := fun x a b => n.2.2 x a x b rfl
  rw [cp, gp_mix, cp_mix d1, cp_two o.2 n.2.1 hm]
theorem maj_cross {k : Int} {ps : List Tr} {p q r : Tr} (hp : p ∈ ps) (hq : q ∈ ps) (hr : r ∈ ps) (ne1 : p ≠ q) (ne2 : p ≠ r) (ne3 : q ≠ r) (o : Tr.oks ps) (n : (Tr.helds ps).Nodup) (hk : 2 ≤ k) (hl : k < ps.length) {x y z : Int} (hx : x ∈ p.held) (hy : y ∈ q.held) (hz : z ∈ r.held) : Maj3 (.t k ps) x y z := by
  obtain ⟨R, hR⟩ := three_of hp hq hr ne1 ne2 ne3
  have o' := oks_perm hR o
  have n' := (helds_perm hR).nodup_iff.mp n
  have hlen := hR.length_eq
  rw [List.length_cons, List.length_cons, List.length_cons] at hlen
  have nn := n'
  rw [Tr.helds, Tr.helds, Tr.helds, List.nodup_append, List.nodup_append, List.nodup_append] at nn
  obtain ⟨m1, ⟨m2, ⟨m3, m4, m5⟩, m6⟩, m7⟩ := nn
  have yp : y ∉ p.held := fun w => m7 y w y (List.mem_append_left _ hy) rfl
  have zp : z ∉ p.held := fun w => m7 z w z (List.mem_append_right _ (List.mem_append_left _ hz)) rfl
  have zq : z ∉ q.held := fun w => m6 z w z (List.mem_append_left _ hz) rfl
  obtain ⟨S1, a1, a2⟩ := ess p (oks_all.mp o p hp) m1 x hx
  obtain ⟨S2, b1, b2⟩ := ess q (oks_all.mp o q hq) m2 y hy
  obtain ⟨S3, c1, c2⟩ := ess r (oks_all.mp o r hr) m3 z hz
  have wx : ∀ A B C : Int → Bool, wi (mix p A (mix q B (mix r C (firstOn R (k - 2).toNat)))) x = mix p (wi A x) (mix q B (mix r C (firstOn R (k - 2).toNat))) := fun A B C => wi_mix hx
  have wy : ∀ A B C : Int → Bool, wi (mix p A (mix q B (mix r C (firstOn R (k - 2).toNat)))) y = mix p A (mix q (wi B y) (mix r C (firstOn R (k - 2).toNat))) := fun A B C => by rw [wi_mix_out yp, wi_mix hy]
  have wz : ∀ A B C : Int → Bool, wi (mix p A (mix q B (mix r C (firstOn R (k - 2).toNat)))) z = mix p A (mix q B (mix r (wi C z) (firstOn R (k - 2).toNat))) := fun A B C => by rw [wi_mix_out zp, wi_mix_out zq, wi_mix hz]
  have ev : ∀ A B C : Int → Bool, gp (mix p A (mix q B (mix r C (firstOn R (k - 2).toNat)))) (.t k ps) = decide (k ≤ (((if gp A p = true then 1 else 0) + ((if gp B q = true then 1 else 0) + ((if gp C r = true then 1 else 0) + (k - 2).toNat)) : Nat) : Int)) := fun A B C => by
    rw [gp, cp_perm _ hR, cp_three o' n' (by omega)]
  refine ⟨mix p S1 (mix q S2 (mix r S3 (firstOn R (k - 2).toNat))), ?_, ?_, ?_, ?_, ?_, ?_⟩
  · rw [wx, ev, a2, b1, c1]; exact decide_eq_false (by simp; omega)
  · rw [wy, ev, a1, b2, c1]; exact decide_eq_false (by simp; omega)
  · rw [wz, ev, a1, b1, c2]; exact decide_eq_false (by simp; omega)
  · rw [wx, wy, ev, a2, b2, c1]; exact decide_eq_true (by simp; omega)
  · rw [wx, wz, ev, a2, b1, c2]; exact decide_eq_true (by simp; omega)
  · rw [wy, wz, ev, a1, b2, c2]; exact decide_eq_true (by simp; omega)
/-! ### parts are told by what the tree does -/
theorem part_of {x : Int} {ps : List Tr} (h : x ∈ Tr.helds ps) : ∃ p ∈ ps, x ∈ p.held := by
  rw [helds_eq] at h
  exact List.mem_flatMap.mp h
theorem in_helds {x : Int} {p : Tr} {ps : List Tr} (hp : p ∈ ps) (h : x ∈ p.held) : x ∈ Tr.helds ps := by
  rw [helds_eq]
  exact List.mem_flatMap.mpr ⟨p, hp, h⟩
theorem other_part {qs : List Tr} {q : Tr} (hq : q ∈ qs) (h1 : qs.length ≠ 1) (o : Tr.oks qs) (n : (Tr.helds qs).Nodup) : ∃ q2 ∈ qs, q2 ≠ q ∧ ∃ z, z ∈ q2.held := by
  obtain ⟨R, hR⟩ := one_of hq
  obtain ⟨_, _, n3⟩ := apart hR n
  have hl := hR.length_eq
  rw [List.length_cons] at hl
  match R, hR, n3, hl with
  | [], _, _, hl => exact absurd hl h1
  | q2 :: R, hR, n3, _ =>
    have h2 : q2 ∈ qs := hR.mem_iff.mpr (List.mem_cons_of_mem _ List.mem_cons_self)
    refine ⟨q2, h2, fun e => ?_, q2.least, least_mem q2 (oks_all.mp o q2 h2)⟩
    have := least_mem q (oks_all.mp o q hq)
    exact n3 _ this (by rw [Tr.helds, e]; exact List.mem_append_left _ this)
theorem third_part {ps : List Tr} {p q : Tr} (hp : p ∈ ps) (hq : q ∈ ps) (ne : p ≠ q) (h1 : 3 ≤ ps.length) (o : Tr.oks ps) (n : (Tr.helds ps).Nodup) : ∃ r ∈ ps, r ≠ p ∧ r ≠ q ∧ ∃ z, z ∈ r.held := by
  obtain ⟨R, hR⟩ := two_of hp hq ne
  have hl := hR.length_eq
  have n' := (helds_perm hR).nodup_iff.mp n
  rw [List.length_cons, List.length_cons] at hl
  match R, hR, n', hl with
  | [], _, _, hl => simp at hl; omega
  | r :: R, hR, n', _ =>
    have h2 : r ∈ ps := hR.mem_iff.mpr (List.mem_cons_of_mem _ (List.mem_cons_of_mem _ List.mem_cons_self))
    have hz := least_mem r (oks_all.mp o r h2)
    rw [Tr.helds, Tr.helds, Tr.helds, List.nodup_append, List.nodup_append] at n'
    exact ⟨r, h2, fun e => n'.2.2 r.least (e ▸ hz) r.least (List.mem_append_right _ (List.mem_append_left _ hz)) rfl, fun e => n'.2.1.2.2 r.least (e ▸ hz) r.least (List.mem_append_left _ hz) rfl, r.least, hz⟩
structure Fine (t : Tr) : Prop where
  ok : t.ok
  plain : t.plain
  nodup : t.held.Nodup
theorem Fine.part {k : Int} {ps : List Tr} (h : Fine (.t k ps)) {p : Tr} (hp : p ∈ ps) : Fine p := by
  obtain ⟨a, b, c⟩ := h
  rw [Tr.ok] at a
  rw [Tr.plain] at b
  rw [Tr.held] at c
  obtain ⟨R, hR⟩ := one_of hp
  exact ⟨oks_all.mp a.2.2 p hp, plains_all.mp b.2.2.2 p hp, (apart hR c).1⟩
theorem and_same {s t : Tr} (h : ∀ S, gp S s = gp S t) {x y : Int} : And2 s x y → And2 t x y := by
  rintro ⟨S, a, b, c⟩
  rw [h] at a b c
  exact ⟨S, a, b, c⟩
theorem maj_same {s t : Tr} (h : ∀ S, gp S s = gp S t) {x y z : Int} : Maj3 s x y z → Maj3 t x y z := by
  rintro ⟨S, a, b, c, d, e, f⟩
  rw [h] at a b c d e f
  exact ⟨S, a, b, c, d, e, f⟩
theorem held_eq {s t : Tr} (hs : Fine s) (ht : Fine t) (h : ∀ S, gp S s = gp S t) (x : Int) : x ∈ s.held ↔ x ∈ t.held :=
  ⟨held_same hs.ok hs.nodup h x, held_same ht.ok ht.nodup (fun S => (h S).symm) x⟩
theorem coarse_one {ps qs : List Tr} {l : Int} (hs : Fine (.t 1 ps)) (ht : Fine (.t l qs)) (h : ∀ S, gp S (.t 1 ps) = gp S (.t l qs)) {p p' q : Tr} (hp : p ∈ ps) (hp' : p' ∈ ps) (ne : p ≠ p') (hq : q ∈ qs) {x y : Int} (hx : x ∈ p.held) (hy : y ∈ p'.held) (qx : x ∈ q.held) (qy : y ∈ q.held) : False := by
  have os := hs.ok
  have ot := ht.ok
  have pt := ht.plain
  have ns := hs.nodup
  have nt := ht.nodup
  rw [Tr.ok] at os ot
  rw [Tr.plain] at pt
  rw [Tr.held] at ns nt
  have xy : x ≠ y := fun e => ne (one_of_helds ns hp hp' hx (e ▸ hy))
  have far : ∀ z, z ∈ Tr.helds ps → ¬ And2 (.t 1 ps) x z ∨ ¬ And2 (.t 1 ps) y z := fun z hz => by
    obtain ⟨pz, hpz, hz⟩ := part_of hz
    by_cases e : p = pz
    · exact .inr (no_and hp' hpz (fun e' => ne (e.trans e'.symm)) ns hy hz)
    · exact .inl (no_and hp hpz e ns hx hz)
  have hin : ∀ {u : Tr} {z : Int}, u ∈ qs → z ∈ u.held → z ∈ Tr.helds ps := fun {u z} hu hz => by
    have := (held_eq hs ht h z).mpr (by rw [Tr.held]; exact in_helds hu hz)
    rw [Tr.held] at this
    exact this
  obtain ⟨q2, hq2, nq, z, hz⟩ := other_part hq pt.1 ot.2.2 nt
  have l1 : l = 1 := Decidable.byContradiction fun e => by
    have a1 := and_same (fun S => (h S).symm) (and_cross (k := l) hq hq2 nq.symm ot.2.2 nt (by omega) ot.2.1 qx hz)
    have a2 := and_same (fun S => (h S).symm) (and_cross (k := l) hq hq2 nq.symm ot.2.2 nt (by omega) ot.2.1 qy hz)
    rcases far z (hin hq2 hz) with f | f
    · exact f a1
    · exact f a2
  subst l1
  have fq := ht.part hq
  cases q with
  | b i =>
    rw [Tr.held, List.mem_singleton] at qx qy
    exact xy (qx.trans qy.symm)
  | t j us =>
    have oq := fq.ok
    have pq := fq.plain
    have nq' := fq.nodup
    rw [Tr.ok] at oq
    rw [Tr.plain] at pq
    rw [Tr.held] at nq' qx qy
    have w1 : wordOf 1 (qs.length : Int) = .one := by unfold wordOf; rw [if_pos rfl]
    have nj : j ≠ 1 := fun e => by
      have := pt.2.1 (by rw [w1]; intro z; cases z) _ hq
      rw [w1, e] at this
      exact this (by show wordOf 1 _ = .one; unfold wordOf; rw [if_pos rfl])
    have lift : ∀ {a b : Int}, a ∈ Tr.helds us → b ∈ Tr.helds us → And2 (.t j us) a b → And2 (.t 1 ps) a b := fun {a b} ha hb hab =>
      and_same (fun S => (h S).symm) (and_lift hq ot.2.2 nt ot.1 ot.2.1 (by rw [Tr.held]; exact ha) (by rw [Tr.held]; exact hb) hab)
    obtain ⟨ux, hux, xu⟩ := part_of qx
    obtain ⟨uy, huy, yu⟩ := part_of qy
    by_cases e : ux = uy
    · subst e
      obtain ⟨u2, hu2, nu, w, hw⟩ := other_part hux pq.1 oq.2.2 nq'
      have a1 := lift qx (in_helds hu2 hw) (and_cross hux hu2 nu.symm oq.2.2 nq' (by omega) oq.2.1 xu hw)
      have a2 := lift qy (in_helds hu2 hw) (and_cross hux hu2 nu.symm oq.2.2 nq' (by omega) oq.2.1 yu hw)
      rcases far w (hin hq (by rw [Tr.held]; exact in_helds hu2 hw)) with f | f
      · exact f a1
      · exact f a2
    · exact no_and hp hp' ne ns hx hy (lift qx qy (and_cross hux huy e oq.2.2 nq' (by omega) oq.2.1 xu yu))
theorem coarse_mid {ps qs : List Tr} {k l : Int} (hs : Fine (.t k ps)) (ht : Fine (.t l qs)) (h : ∀ S, gp S (.t k ps) = gp S (.t l qs)) (k2 : 2 ≤ k) (kn : k < ps.length) {p p' q : Tr} (hp : p ∈ ps) (hp' : p' ∈ ps) (ne : p ≠ p') (hq : q ∈ qs) {x y : Int} (hx : x ∈ p.held) (hy : y ∈ p'.held) (qx : x ∈ q.held) (qy : y ∈ q.held) : False := by
  have os := hs.ok
  have ot := ht.ok
  have pt := ht.plain
  have ns := hs.nodup
  have nt := ht.nodup
  rw [Tr.ok] at os ot
  rw [Tr.plain] at pt
  rw [Tr.held] at ns nt
  obtain ⟨q2, hq2, nq, z, hz⟩ := other_part hq pt.1 ot.2.2 nt
  have hzs : z ∈ Tr.helds ps := by
    have := (held_eq hs ht h z).mpr (by rw [Tr.held]; exact in_helds hq2 hz)
    rw [Tr.held] at this
    exact this
  obtain ⟨pz, hpz, hz'⟩ := part_of hzs
  obtain ⟨p3, hp3, n31, n32, w, hw⟩ := third_part hp hp' ne (by omega) os.2.2 ns
  have mj : Maj3 (.t l qs) x y w := maj_same h (maj_cross hp hp' hp3 ne n31.symm n32.symm os.2.2 ns k2 kn hx hy hw)
  have hwq : w ∈ q.held := by
    have := (held_eq hs ht h w).mp (by rw [Tr.held]; exact in_helds hp3 hw)
    rw [Tr.held] at this
    obtain ⟨qw, hqw, wq⟩ := part_of this
    by_cases e : q = qw
    · rw [e]; exact wq
    · exact absurd mj (no_maj hq hqw e nt qx qy wq)
  by_cases e1 : pz = p
  · subst e1
    exact no_maj hq hq2 nq.symm nt qy hwq hz (maj_same h (maj_cross hp' hp3 hpz n32.symm ne.symm n31 os.2.2 ns k2 kn hy hw hz'))
  · by_cases e2 : pz = p'
    · subst e2
      exact no_maj hq hq2 nq.symm nt qx hwq hz (maj_same h (maj_cross hp hp3 hpz n31.symm ne n32 os.2.2 ns k2 kn hx hw hz'))
    · exact no_maj hq hq2 nq.symm nt qx qy hz (maj_same h (maj_cross hp hp' hpz ne (fun e => e1 e.symm) (fun e => e2 e.symm) os.2.2 ns k2 kn hx hy hz'))
/-! contrary trees do the contrary -/
mutual
theorem gp_con (S : Int → Bool) : ∀ t : Tr, gp S (con t) = !gp (fun i => !S i) t
  | .b i => by rw [con, gp, gp, Bool.not_not]
  | .t k ps => by
    have := cp_con S ps
    rw [con, gp, gp]
    by_cases hk : k ≤ (cp (fun i => !S i) ps : Int)
    · rw [decide_eq_true hk]
      exact decide_eq_false (by omega)
    · rw [decide_eq_false hk]
      exact decide_eq_true (by omega)
theorem cp_con (S : Int → Bool) : ∀ ps : List Tr, cp S (cons ps) + cp (fun i => !S i) ps = ps.length
  | [] => by rw [cons, cp, cp]; rfl
  | p :: r => by
    have h1 := gp_con S p
    have h2 := cp_con S r
    rw [cons, cp, cp, h1, List.length_cons]
    cases gp (fun i => !S i) p <;> simp <;> omega
end
theorem Fine.con {t : Tr} (h : Fine t) : Fine (con t) := by
  refine ⟨con_ok t h.ok, ?_, by rw [con_held]; exact h.nodup⟩
  have : tell (Own.con t) = Own.con t := by rw [tell_con t h.ok, tell_plain t h.plain]
  rw [← this]
  exact plain_tell _ (con_ok t h.ok)
theorem con_inj {a b : Tr} (h : con a = con b) : a = b := by rw [← con_con a, h, con_con]
theorem coarse {ps qs : List Tr} {k l : Int} (hs : Fine (.t k ps)) (ht : Fine (.t l qs)) (h : ∀ S, gp S (.t k ps) = gp S (.t l qs)) {p p' q : Tr} (hp : p ∈ ps) (hp' : p' ∈ ps) (ne : p ≠ p') (hq : q ∈ qs) {x y : Int} (hx : x ∈ p.held) (hy : y ∈ p'.held) (qx : x ∈ q.held) (qy : y ∈ q.held) : False := by
  have os := hs.ok
  rw [Tr.ok] at os
  by_cases k1 : k = 1
  · subst k1
    exact coarse_one hs ht h hp hp' ne hq hx hy qx qy
  · by_cases kn : k = (ps.length : Int)
    · have cs := hs.con
      have ct := ht.con
      have hc : ∀ S, gp S (con (.t k ps)) = gp S (con (.t l qs)) := fun S => by rw [gp_con, gp_con, h]
      rw [con] at cs hc
      rw [con] at ct hc
      have e1 : (ps.length : Int) - k + 1 = 1 := by omega
      rw [e1] at cs hc
      have mc : ∀ {u : Tr} {us : List Tr}, u ∈ us → con u ∈ cons us := fun {u us} hu => by
        rw [cons_eq]
        exact List.mem_map.mpr ⟨u, hu, rfl⟩
      exact coarse_one cs ct hc (mc hp) (mc hp') (fun e => ne (con_inj e)) (mc hq) (x := x) (y := y) (by rw [con_held]; exact hx) (by rw [con_held]; exact hy) (by rw [con_held]; exact qx) (by rw [con_held]; exact qy)
    · exact coarse_mid hs ht h (by omega) (by omega) hp hp' ne hq hx hy qx qy
/-! sorted rows with the same members -/
theorem strict {ps : List Tr} (o : Tr.oks ps) (n : (Tr.helds ps).Nodup) (h : ps.Pairwise fun a b => a.least ≤ b.least) : ps.Pairwise fun a b => a.least < b.least := by
  induction ps with
  | nil => exact .nil
  | cons p r ih =>
    rw [Tr.oks] at o
    rw [Tr.helds, List.nodup_append] at n
    rw [List.pairwise_cons] at h ⊢
    refine ⟨fun q hq => ?_, ih o.2 n.2.1 h.2⟩
    have h1 := h.1 q hq
    have : p.least ≠ q.least := fun e => n.2.2 p.least (least_mem p o.1) p.least (in_helds hq (e ▸ least_mem q (oks_all.mp o.2 q hq))) rfl
    omega
theorem sorted_eq : ∀ {A B : List Tr}, A.Pairwise (fun a b => a.least < b.least) → B.Pairwise (fun a b => a.least < b.least) → (∀ x, x ∈ A ↔ x ∈ B) → A = B
  | [], [], _, _, _ => rfl
  | [], b :: _, _, _, h => absurd ((h b).mpr List.mem_cons_self) (by simp)
  | a :: _, [], _, _, h => absurd ((h a).mp List.mem_cons_self) (by simp)
  | a :: A, b :: B, hA, hB, h => by
    rw [List.pairwise_cons] at hA hB
    have e : a = b := by
      rcases List.mem_cons.mp ((h a).mp List.mem_cons_self) with e | e
      · exact e
      · rcases List.mem_cons.mp ((h b).mpr List.mem_cons_self) with e' | e'
        · exact e'.symm
        · have h1 := hB.1 a e
          have h2 := hA.1 b e'
          omega
    subst e
    rw [sorted_eq hA.2 hB.2 fun x => ?_]
    constructor
    · intro hx
      rcases List.mem_cons.mp ((h x).mp (List.mem_cons_of_mem _ hx)) with e | e
      · have := hA.1 x hx
        rw [e] at this
        omega
      · exact e
    · intro hx
      rcases List.mem_cons.mp ((h x).mpr (List.mem_cons_of_mem _ hx)) with e | e
      · have := hB.1 x hx
        rw [e] at this
        omega
      · exact e
theorem len_two {k : Int} {ps : List Tr} (h : Fine (.t k ps)) : 2 ≤ (Tr.t k ps).held.length := by
  have o := h.ok
  have p := h.plain
  rw [Tr.ok] at o
  rw [Tr.plain] at p
  rw [Tr.held]
  have := oks_pos ps o.2.2
  omega
theorem nodup_len : ∀ {A B : List Int}, A.Nodup → (∀ x ∈ A, x ∈ B) → A.length ≤ B.length
  | [], _, _, _ => Nat.zero_le _
  | a :: A, B, hA, h => by
    obtain ⟨B1, B2, rfl⟩ := List.append_of_mem (h a List.mem_cons_self)
    rw [List.nodup_cons] at hA
    have := nodup_len (A := A) (B := B1 ++ B2) hA.2 fun x hx => by
      have hx' := h x (List.mem_cons_of_mem _ hx)
      rcases List.mem_append.mp hx' with z | z
      · exact List.mem_append_left _ z
      · rcases List.mem_cons.mp z with e | z
        · rw [e] at hx
          exact absurd hx hA.1
        · exact List.mem_append_right _ z
    rw [List.length_append, List.length_cons, List.length_cons]
    rw [List.length_append] at this
    omega
theorem uniq_bt {i : Int} {l : Int} {qs : List Tr} (hs : Fine (.b i)) (ht : Fine (.t l qs)) (h : ∀ S, gp S (.b i) = gp S (.t l qs)) : False := by
  have h2 := len_two ht
  have hm := fun x => (held_eq hs ht h x).mpr
  have nd := ht.nodup
  match e : (Tr.t l qs).held, h2, nd, hm with
  | [], h2, _, _ => simp at h2
  | [_], h2, _, _ => simp at h2
  | a :: b :: _, _, nd, hm =>
    have ha := hm a List.mem_cons_self
    have hb := hm b (List.mem_cons_of_mem _ List.mem_cons_self)
    rw [Tr.held, List.mem_singleton] at ha hb
    rw [List.nodup_cons] at nd
    exact nd.1 (by rw [ha, ← hb]; exact List.mem_cons_self)
theorem uniq_le : ∀ (n : Nat) (s t : Tr), s.held.length ≤ n → Fine s → Fine t → (∀ S, gp S s = gp S t) → s = t
  | 0, s, t, hn, hs, _, _ => by
    have := ok_pos s hs.ok
    omega
  | n + 1, .b i, .b j, _, hs, ht, h => by
    have := (held_eq hs ht h i).mp (by rw [Tr.held]; exact List.mem_singleton.mpr rfl)
    rw [Tr.held, List.mem_singleton] at this
    rw [this]
  | n + 1, .b i, .t l qs, _, hs, ht, h => (uniq_bt hs ht h).elim
  | n + 1, .t k ps, .b j, _, hs, ht, h => (uniq_bt ht hs fun S => (h S).symm).elim
  | n + 1, .t k ps, .t l qs, hn, hs, ht, h => by
    have os := hs.ok
    have ot := ht.ok
    have pls := hs.plain
    have plt := ht.plain
    have ns := hs.nodup
    have nt := ht.nodup
    rw [Tr.ok] at os ot
    rw [Tr.plain] at pls plt
    rw [Tr.held] at ns nt
    have same : ∀ (k l : Int) (ps qs : List Tr), Fine (.t k ps) → Fine (.t l qs) → (∀ S, gp S (.t k ps) = gp S (.t l qs)) → ∀ p ∈ ps, ∀ q ∈ qs, ∀ x0, x0 ∈ p.held → x0 ∈ q.held → ∀ y, y ∈ p.held → y ∈ q.held := by
      intro k l ps qs hs ht h p hp q hq x0 h1 h2 y hy
      have := (held_eq hs ht h y).mp (by rw [Tr.held]; exact in_helds hp hy)
      rw [Tr.held] at this
      obtain ⟨qy, hqy, yq⟩ := part_of this
      by_cases e : q = qy
      · rw [e]; exact yq
      · exact (coarse ht hs (fun S => (h S).symm) hq hqy e hp h2 yq h1 hy).elim
    have sub : ∀ (k l : Int) (ps qs : List Tr), Fine (.t k ps) → Fine (.t l qs) → (∀ S, gp S (.t k ps) = gp S (.t l qs)) → (∀ p ∈ ps, p.held.length ≤ n) → ∀ p ∈ ps, p ∈ qs := by
      intro k l ps qs hs ht h hsm p hp
      have os := hs.ok
      have ot := ht.ok
      have ns := hs.nodup
      have nt := ht.nodup
      rw [Tr.ok] at os ot
      rw [Tr.held] at ns nt
      have fp := hs.part hp
      have hx0 := least_mem p fp.ok
      have := (held_eq hs ht h p.least).mp (by rw [Tr.held]; exact in_helds hp hx0)
      rw [Tr.held] at this
      obtain ⟨q, hq, hxq⟩ := part_of this
      have s1 := same k l ps qs hs ht h p hp q hq _ hx0 hxq
      have s2 := same l k qs ps ht hs (fun S => (h S).symm) q hq p hp _ hxq hx0
      obtain ⟨R, hR⟩ := one_of hp
      obtain ⟨Q, hQ⟩ := one_of hq
      obtain ⟨_, _, n3⟩ := apart hQ nt
      have key : ∀ S0, gp S0 p = decide (l ≤ (((if gp S0 q = true then 1 else 0) + cp (firstOn R (k - 1).toNat) Q : Nat) : Int)) := by
        intro S0
        have e1 := h (mix p S0 (firstOn R (k - 1).toNat))
        rw [gp_part hR os.2.2 ns os.1 os.2.1, gp, cp_perm _ hQ, cp] at e1
        rw [e1, gp_congr q fun x hx => mix_in (s2 x hx), cp_mix fun x hx => n3 x (s1 x hx)]
      have t1 := key fun _ => true
      have t2 := key fun _ => false
      rw [gp_on p fp.ok fun _ _ => rfl, gp_on q (ht.part hq).ok fun _ _ => rfl] at t1
      rw [gp_off p fp.ok fun _ _ => rfl, gp_off q (ht.part hq).ok fun _ _ => rfl] at t2
      have t1 := of_decide_eq_true t1.symm
      have t2 := of_decide_eq_false t2.symm
      simp at t1 t2
      have : p = q := uniq_le n p q (hsm p hp) fp (ht.part hq) fun S0 => by
        rw [key S0]
        cases gp S0 q with
        | true => exact decide_eq_true (by simp; omega)
        | false => exact decide_eq_false (by simp; omega)
      rw [this]
      exact hq
    have small : ∀ (k : Int) (ps : List Tr), Fine (.t k ps) → (Tr.t k ps).held.length ≤ n + 1 → ∀ p ∈ ps, p.held.length ≤ n := by
      intro k ps hs hn p hp
      have pl := hs.plain
      have o := hs.ok
      rw [Tr.plain] at pl
      rw [Tr.ok] at o
      have nn := hs.nodup
      rw [Tr.held] at nn
      obtain ⟨R, hR⟩ := one_of hp
      have hl := (helds_perm hR).length_eq
      rw [Tr.helds, List.length_append] at hl
      have oR := oks_perm hR o.2.2
      rw [Tr.oks] at oR
      have h1 := oks_pos R oR.2
      have h2 := hR.length_eq
      rw [List.length_cons] at h2
      rw [Tr.held] at hn
      have := pl.1
      omega
    have hn2 : (Tr.t l qs).held.length ≤ n + 1 := Nat.le_trans (nodup_len ht.nodup fun x hx => (held_eq hs ht h x).mpr hx) hn
    have e1 := sub k l ps qs hs ht h (small k ps hs hn)
    have e2 := sub l k qs ps ht hs (fun S => (h S).symm) (small l qs ht hn2)
    have epq : ps = qs := sorted_eq (strict os.2.2 ns pls.2.2.1) (strict ot.2.2 nt plt.2.2.1) fun x => ⟨e1 x, e2 x⟩
    subst epq
    have kl : k = l := by
      have h1 := h (firstOn ps k.toNat)
      have h2 := h (firstOn ps l.toNat)
      rw [gp, gp, cp_first os.2.2 ns (by omega) fun x _ => rfl] at h1 h2
      rw [decide_eq_true (show k ≤ (k.toNat : Int) by omega)] at h1
      rw [decide_eq_true (show l ≤ (l.toNat : Int) by omega)] at h2
      have h1 := of_decide_eq_true h1.symm
      have h2 := of_decide_eq_true h2
      omega
    rw [kl]
/-- trees that do the same have one told tree -/
theorem uniq {s t : Tr} (hs : Fine s) (ht : Fine t) (h : ∀ S, gp S s = gp S t) : s = t := uniq_le _ s t (Nat.le_refl _) hs ht h
end Own

namespace Own
open PySem PySem.Spec PyProof.Rows L2
/-! ### what is left, as a function -/
def over (S : Int → Bool) (On Off : List Int) : Int → Bool := fun i => if i ∈ On then true else if i ∈ Off then false else S i
def gpR (S : Int → Bool) : Rs → Bool
  | .set b => b
  | .un t => gp S t
def cpR (S : Int → Bool) : List Rs → Nat
  | [] => 0
  | r :: rs => (if gpR S r = true then 1 else 0) + cpR S rs
theorem cpR_eq (S : Int → Bool) : ∀ rs : List Rs, cpR S rs = doneOf rs + cp S (openOf rs)
  | [] => by rw [cpR, doneOf, openOf, cp]
  | .set true :: rs => by rw [cpR, doneOf, openOf, cpR_eq S rs, gpR]; simp; omega
  | .set false :: rs => by rw [cpR, doneOf, openOf, cpR_eq S rs, gpR]; simp
  | .un t :: rs => by rw [cpR, doneOf, openOf, cpR_eq S rs, gpR, cp]; omega
theorem gpR_closed (S : Int → Bool) (k : Int) (rs : List Rs) : gpR S (closed (k - doneOf rs) (openOf rs)) = decide (k ≤ (cpR S rs : Int)) := by
  have h := cpR_eq S rs
  have hl := cp_le S (openOf rs)
  unfold closed
  split
  · rw [gpR]
    exact (decide_eq_true (by omega)).symm
  · split
    · rw [gpR, gp, h]
      by_cases c : k - (doneOf rs : Int) ≤ (cp S (openOf rs) : Int)
      · rw [decide_eq_true c]
        exact (decide_eq_true (by omega)).symm
      · rw [decide_eq_false c]
        exact (decide_eq_false (by omega)).symm
    · rw [gpR]
      exact (decide_eq_false (by omega)).symm
mutual
theorem gp_rest (S : Int → Bool) (On Off : List Int) : ∀ t : Tr, gpR S (Own.rest On Off t) = gp (over S On Off) t
  | .b i => by
    rw [Own.rest, gp, over]
    split
    · rfl
    · split
      · rfl
      · rw [gpR, gp]
  | .t k ps => by rw [Own.rest, gpR_closed, gp, cp_rests S On Off ps]
theorem cp_rests (S : Int → Bool) (On Off : List Int) : ∀ ps : List Tr, cpR S (rests On Off ps) = cp (over S On Off) ps
  | [] => by rw [rests, cpR, cp]
  | p :: r => by rw [rests, cpR, cp, gp_rest S On Off p, cp_rests S On Off r]
end
theorem gp_tell (S : Int → Bool) {t : Tr} (o : t.ok) : gp S (tell t) = gp S t := by
  obtain ⟨_, hp, _⟩ := tell_like t o
  have h := go_tell (t.held.filter fun x => S x) t o
  rw [go_gp, go_gp] at h
  have e : ∀ x ∈ t.held, (fun i => decide (i ∈ t.held.filter fun x => S x)) x = S x := fun x hx => by
    by_cases hs : S x = true
    · rw [hs]
      exact decide_eq_true (List.mem_filter.mpr ⟨hx, hs⟩)
    · have hs' : S x = false := by simpa using hs
      rw [hs']
      exact decide_eq_false fun q => hs (List.mem_filter.mp q).2
  rw [gp_congr (tell t) fun x hx => e x (hp.mem_iff.mp hx), gp_congr t e] at h
  exact h
theorem gpR_tell (S : Int → Bool) {On Off : List Int} {t : Tr} : gpR S (tellR (Own.rest On Off t)) = gp (over S On Off) t := by
  rw [← gp_rest S On Off t]
  cases e : Own.rest On Off t with
  | set b => rfl
  | un u => exact gp_tell S (rest_un e).1
theorem Fine.told {t : Tr} (o : t.ok) (n : t.held.Nodup) : Fine (tell t) := by
  obtain ⟨a, b, _⟩ := tell_like t o
  exact ⟨a, plain_tell t o, b.nodup_iff.mpr n⟩
def FineR : Rs → Prop
  | .set _ => True
  | .un t => Fine t
theorem fine_rest {On Off : List Int} {t : Tr} (n : t.held.Nodup) : FineR (tellR (Own.rest On Off t)) := by
  cases e : Own.rest On Off t with
  | set b => trivial
  | un u =>
    obtain ⟨a, _, c⟩ := rest_un e
    exact Fine.told a (n.sublist c)
theorem uniqR {r s : Rs} (hr : FineR r) (hs : FineR s) (h : ∀ S, gpR S r = gpR S s) : r = s := by
  have no : ∀ (b : Bool) (t : Tr), Fine t → (∀ S, b = gp S t) → False := fun b t ht hb => by
    have h1 := hb fun _ => true
    have h2 := hb fun _ => false
    rw [gp_on t ht.ok fun _ _ => rfl] at h1
    rw [gp_off t ht.ok fun _ _ => rfl] at h2
    rw [h1] at h2
    cases h2
  cases r with
  | set b =>
    cases s with
    | set c => rw [show b = c from h fun _ => true]
    | un t => exact (no b t hs h).elim
  | un t =>
    cases s with
    | set c => exact (no c t hr fun S => (h S).symm).elim
    | un u => rw [uniq hr hs h]
/-! what is left has none of the buttons -/
mutual
theorem rest_free {On Off : List Int} : ∀ {t u : Tr}, Own.rest On Off t = .un u → ∀ x ∈ u.held, x ∉ On ∧ x ∉ Off
  | .b i, u, h, x, hx => by
    rw [Own.rest] at h
    split at h
    · cases h
    · split at h
      · cases h
      · cases h
        rw [Tr.held, List.mem_singleton] at hx
        subst hx
        exact ⟨by assumption, by assumption⟩
  | .t k ps, u, h, x, hx => by
    rw [Own.rest] at h
    unfold closed at h
    split at h
    · cases h
    · split at h
      · cases h
        rw [Tr.held] at hx
        exact rests_free ps x hx
      · cases h
theorem rests_free {On Off : List Int} : ∀ ps : List Tr, ∀ x ∈ Tr.helds (openOf (rests On Off ps)), x ∉ On ∧ x ∉ Off
  | [], x, hx => by
    rw [rests, openOf, Tr.helds] at hx
    cases hx
  | p :: r, x, hx => by
    rw [rests] at hx
    cases e : Own.rest On Off p with
    | set b =>
      rw [e, openOf] at hx
      exact rests_free r x hx
    | un u =>
      rw [e, openOf, Tr.helds] at hx
      rcases List.mem_append.mp hx with z | z
      · exact rest_free e x z
      · exact rests_free r x z
end
/-- one step more -/
def stepR (On Off : List Int) : Rs → Rs
  | .set b => .set b
  | .un t => tellR (Own.rest On Off t)
theorem gp_step (S : Int → Bool) (On Off : List Int) (r : Rs) : gpR S (stepR On Off r) = gpR (over S On Off) r := by
  cases r with
  | set b => rfl
  | un t => exact gpR_tell S
theorem fine_step {On Off : List Int} {r : Rs} (h : FineR r) : FineR (stepR On Off r) := by
  cases r with
  | set b => trivial
  | un t => exact fine_rest h.nodup
def heldR : Rs → List Int
  | .set _ => []
  | .un t => t.held
theorem held_step {On Off : List Int} {r : Rs} (h : FineR r) : ∀ x ∈ heldR (stepR On Off r), x ∈ heldR r ∧ x ∉ On ∧ x ∉ Off := by
  cases r with
  | set b => exact fun x hx => nomatch hx
  | un t =>
    intro x hx
    show x ∈ t.held ∧ _
    cases e : Own.rest On Off t with
    | set b =>
      rw [stepR, e] at hx
      exact nomatch hx
    | un u =>
      obtain ⟨a, _, c⟩ := rest_un e
      rw [stepR, e] at hx
      have hx' : x ∈ u.held := (tell_like u a).2.mem_iff.mp hx
      exact ⟨c.subset hx', rest_free e x hx'⟩
/-- two that differ, differ with the button or without it -/
theorem step_parts {r s : Rs} (hr : FineR r) (hs : FineR s) (h : r ≠ s) (x : Int) (e : stepR [x] [] r = stepR [x] [] s) : stepR [] [x] r ≠ stepR [] [x] s := by
  intro e2
  refine h (uniqR hr hs fun S => ?_)
  by_cases hx : S x = true
  · have h1 := gp_step S [x] [] r
    have h2 := gp_step S [x] [] s
    have eo : over S [x] [] = S := by
      funext i
      unfold over
      by_cases hi : i ∈ [x]
      · rw [if_pos hi, List.mem_singleton.mp hi, hx]
      · rw [if_neg hi, if_neg (by simp)]
    rw [eo] at h1 h2
    rw [← h1, ← h2, e]
  · have h1 := gp_step S [] [x] r
    have h2 := gp_step S [] [x] s
    have eo : over S [] [x] = S := by
      funext i
      unfold over
      rw [if_neg (by simp)]
      by_cases hi : i ∈ [x]
      · rw [if_pos hi, List.mem_singleton.mp hi]
        simpa using hx
      · rw [if_neg hi]
    rw [eo] at h1 h2
    rw [← h1, ← h2, e2]
theorem over_on (S : Int → Bool) (On Off : List Int) (x : Int) (h : x ∉ Off) (h' : x ∉ On) : over (over S [x] []) On Off = over S (On ++ [x]) Off := by
  funext i
  unfold over
  by_cases e : i = x
  · subst e
    simp [h, h']
  · simp [e]
theorem over_off (S : Int → Bool) (On Off : List Int) (x : Int) (h : x ∉ Off) (h' : x ∉ On) : over (over S [] [x]) On Off = over S On (Off ++ [x]) := by
  funext i
  unfold over
  by_cases e : i = x
  · subst e
    simp [h, h']
  · simp [e]
theorem set_of_none {r : Rs} (h : FineR r) (e : ∀ x, x ∉ heldR r) : ∃ b, r = .set b := by
  cases r with
  | set b => exact ⟨b, rfl⟩
  | un t => exact absurd (least_mem t h.ok) (e _)
/-- data: two told rests -/
theorem gp_lot (On Off : List Int) (t : Tr) : t.go On = gp (over (fun _ => false) On Off) t := by
  rw [go_gp]
  congr 1
  funext i
  unfold over
  by_cases h : i ∈ On
  · simp [h]
  · simp [h]
end Own

namespace Own
open PySem PySem.Spec PyProof.Rows L2
theorem walk_zipT {K : PySem.W.Frag} {a b : Addr} {xs ys : List V} {n : Nat} (hn : n = min xs.length ys.length) : Walk (RZ.ItzT K a b) n (fun H => SqT K H a xs ∧ SqT K H b ys) (YPair (fun i => xs[i]?) (fun i => ys[i]?)) := by
  subst hn
  refine ⟨fun i _ hi q => ?_, fun _ q => ⟨xs, ys, q.1, q.2, by omega⟩, fun i H v H' _ q y => ?_⟩
  · have h1 : i < xs.length := by omega
    have h2 : i < ys.length := by omega
    exact ⟨xs, ys, xs[i], ys[i], q.1, q.2, by simp [h1], by simp [h2]⟩
  · obtain ⟨T, x, z, h1, h2, h3, h4, h5⟩ := y
    exact ⟨T, x, z, h1, h2, h3, h4 xs q.1, h5 ys q.2⟩
/-! ### a thing put where a way leads: what is held -/
theorem set_split : ∀ {ps : List Tr} {i : Nat} {p : Tr} (q : Tr), ps[i]? = some p → ∃ A B, Tr.helds ps = A ++ p.held ++ B ∧ Tr.helds (ps.set i q) = A ++ q.held ++ B
  | [], _, _, _, h => by simp at h
  | r :: ps, 0, p, q, h => by
    simp at h
    subst h
    exact ⟨[], Tr.helds ps, by rw [Tr.helds]; rfl, by rw [List.set_cons_zero, Tr.helds]; rfl⟩
  | r :: ps, i + 1, p, q, h => by
    obtain ⟨A, B, h1, h2⟩ := set_split (ps := ps) (i := i) (p := p) q (by simpa using h)
    exact ⟨r.held ++ A, B, by rw [Tr.helds, h1]; simp [List.append_assoc], by rw [List.set_cons_succ, Tr.helds, h2]; simp [List.append_assoc]⟩
theorem put_split {u s : Tr} : ∀ {w : List Int} {t : Tr}, toward t w = some s → ∃ A B, t.held = A ++ s.held ++ B ∧ (putAt t w u).held = A ++ u.held ++ B
  | [], t, h => by
    rw [toward_nil] at h
    cases h
    exact ⟨[], [], by simp, by rw [putAt_nil]; simp⟩
  | i :: w, .b _, h => by
    rw [toward] at h
    cases h
  | i :: w, .t k ps, h => by
    obtain ⟨h0, p, hp, hr⟩ := toward_cons h
    obtain ⟨A, B, h1, h2⟩ := put_split (u := u) hr
    obtain ⟨C, D, h3, h4⟩ := set_split (putAt p w u) hp
    refine ⟨C ++ A, B ++ D, ?_, ?_⟩
    · rw [Tr.held, h3, h1]
      simp [List.append_assoc]
    · rw [putAt_cons hp, Tr.held, h4, h2]
      simp [List.append_assoc]
theorem put_perm {u s t : Tr} {w : List Int} (h : toward t w = some s) (hu : u.held.Perm s.held) : (putAt t w u).held.Perm t.held := by
  obtain ⟨A, B, h1, h2⟩ := put_split (u := u) h
  rw [h1, h2]
  exact (List.Perm.append_left A hu).append_right B
/-- no deeper, as sound -/
theorem put_ok {u s : Tr} (hu : u.ok) (hd : u.deep ≤ s.deep) : ∀ {w : List Int} {t : Tr}, t.ok → toward t w = some s → (putAt t w u).ok ∧ (putAt t w u).deep ≤ t.deep
  | [], t, _, e => by
    rw [toward_nil] at e
    cases e
    rw [putAt_nil]
    exact ⟨hu, hd⟩
  | i :: w, .b _, _, e => by
    rw [toward] at e
    cases e
  | i :: w, .t k ps, o, e => by
    obtain ⟨h0, p, hp, hr⟩ := toward_cons e
    rw [Tr.ok] at o
    have hm := List.mem_of_getElem? hp
    obtain ⟨i1, i2⟩ := put_ok hu hd (t := p) (oks_all.mp o.2.2 p hm) hr
    rw [putAt_cons hp]
    have hdp := deep_get hp
    refine ⟨?_, ?_⟩
    · rw [Tr.ok, List.length_set]
      refine ⟨o.1, o.2.1, oks_all.mpr fun q hq => ?_⟩
      rcases List.mem_or_eq_of_mem_set hq with z | z
      · exact oks_all.mp o.2.2 q z
      · rw [z]; exact i1
    · rw [Tr.deep, Tr.deep]
      have : Tr.deeps (ps.set i.toNat (putAt p w u)) ≤ Tr.deeps ps := deeps_le.mpr fun q hq => by
        rcases List.mem_or_eq_of_mem_set hq with z | z
        · exact (deeps_le (n := Tr.deeps ps)).mp (Nat.le_refl _) q z
        · rw [z]
          omega
      omega
theorem toward_put {i f : Int} {u : Tr} : ∀ {w w2 : List Int} {t : Tr}, toward t w = some (.b i) → toward t w2 = some (.b f) → w ≠ w2 → toward (putAt t w u) w2 = some (.b f)
  | [], w2, t, h, h2, ne => by
    rw [toward_nil] at h
    cases h
    cases w2 with
    | nil => exact absurd rfl ne
    | cons a w2 =>
      rw [toward] at h2
      cases h2
  | a :: w, w2, .b _, h, _, _ => by
    rw [toward] at h
    cases h
  | a :: w, [], .t k ps, _, h2, _ => by
    rw [toward_nil] at h2
    cases h2
  | a :: w, c :: w2, .t k ps, h, h2, ne => by
    obtain ⟨a0, p, hp, hr⟩ := toward_cons h
    obtain ⟨c0, q, hq, hr2⟩ := toward_cons h2
    rw [putAt_cons hp]
    by_cases e : a = c
    · subst e
      rw [hp] at hq
      cases hq
      have hlt := (List.getElem?_eq_some_iff.mp hp).1
      rw [toward_mk a0 (p := putAt p w u) (by rw [List.getElem?_set, if_pos rfl, if_pos hlt])]
      exact toward_put hr hr2 fun z => ne (by rw [z])
    · rw [toward_mk c0 (p := q) (by rw [List.getElem?_set, if_neg (by omega)]; exact hq)]
      exact hr2
mutual
theorem held_subs : ∀ (t : Tr) (x : Int), x ∈ t.held → Tr.b x ∈ subs t
  | .b i, x, h => by
    rw [Tr.held, List.mem_singleton] at h
    rw [h, subs]
    exact List.mem_singleton.mpr rfl
  | .t k ps, x, h => by
    rw [Tr.held] at h
    rw [subs]
    exact List.mem_cons_of_mem _ (helds_subss ps x h)
theorem helds_subss : ∀ (ps : List Tr) (x : Int), x ∈ Tr.helds ps → Tr.b x ∈ subss ps
  | [], x, h => by rw [Tr.helds] at h; cases h
  | p :: r, x, h => by
    rw [Tr.helds] at h
    rw [subss]
    rcases List.mem_append.mp h with z | z
    · exact List.mem_append_left _ (held_subs p x z)
    · exact List.mem_append_right _ (helds_subss r x z)
end
/-- one of the buttons another one, or two exchanged, or all as they were -/
structure Close (t u : Tr) : Prop where
  ok : u.ok
  deep : u.deep ≤ t.deep
  nodup : u.held.Nodup
  few : u.held.length = t.held.length
  sub : ∀ x ∈ u.held, x ∈ t.held ∨ x = 97
theorem Close.perm {t u : Tr} (n : t.held.Nodup) (o : u.ok) (d : u.deep ≤ t.deep) (p : u.held.Perm t.held) : Close t u := ⟨o, d, p.nodup_iff.mpr n, p.length_eq, fun x hx => .inl (p.mem_iff.mp hx)⟩
theorem ok_b (i : Int) : (Tr.b i).ok := by rw [Tr.ok]; trivial
theorem close_new {t : Tr} {w : List Int} {i f : Int} (n : t.held.Nodup) (o : t.ok) (h : toward t w = some (.b i)) (hf : f ∉ t.held ∨ f = i) (h97 : f ∈ t.held ∨ f = 97) : Close t (putAt t w (.b f)) := by
  obtain ⟨a, b⟩ := put_ok (u := .b f) (s := .b i) (ok_b f) (by rw [Tr.deep, Tr.deep]; exact Nat.le_refl _) o h
  obtain ⟨A, B, h1, h2⟩ := put_split (u := .b f) h
  rw [Tr.held] at h1 h2
  refine ⟨a, b, ?_, by rw [h1, h2]; simp, fun x hx => ?_⟩
  · rcases hf with hf | hf
    · rw [h1] at n hf
      rw [h2]
      have p1 : (A ++ [f] ++ B).Perm (f :: (A ++ B)) := by
        rw [List.append_assoc]
        exact List.perm_middle
      have p2 : (A ++ [i] ++ B).Perm (i :: (A ++ B)) := by
        rw [List.append_assoc]
        exact List.perm_middle
      rw [p1.nodup_iff, List.nodup_cons]
      rw [p2.nodup_iff, List.nodup_cons] at n
      refine ⟨fun q => hf (p2.mem_iff.mpr (List.mem_cons_of_mem _ q)), n.2⟩
    · rw [h2, hf, ← h1]
      exact n
  · rw [h2] at hx
    rw [h1]
    simp only [List.mem_append, List.mem_singleton] at hx ⊢
    rcases hx with (q | q) | q
    · exact .inl (.inl (.inl q))
    · subst q
      rcases h97 with z | z
      · rw [h1] at z
        simp only [List.mem_append, List.mem_singleton] at z
        exact .inl z
      · exact .inr z
    · exact .inl (.inr q)
theorem close_swap {t : Tr} {w w2 : List Int} {i f : Int} (n : t.held.Nodup) (o : t.ok) (h : toward t w = some (.b i)) (h2 : toward t w2 = some (.b f)) (ne : w ≠ w2) : Close t (putAt (putAt t w (.b f)) w2 (.b i)) := by
  obtain ⟨a, b⟩ := put_ok (u := .b f) (s := .b i) (ok_b f) (by rw [Tr.deep, Tr.deep]; exact Nat.le_refl _) o h
  have h3 := toward_put (u := .b f) h h2 ne
  obtain ⟨a', b'⟩ := put_ok (u := .b i) (s := .b f) (ok_b i) (by rw [Tr.deep, Tr.deep]; exact Nat.le_refl _) a h3
  obtain ⟨A, B, e1, e2⟩ := put_split (u := .b f) h
  obtain ⟨C, D, e3, e4⟩ := put_split (u := .b i) h3
  rw [Tr.held] at e1 e2 e3 e4
  refine .perm n a' (Nat.le_trans b' b) ?_
  have pm : ∀ (X Y : List Int) (z : Int), (X ++ [z] ++ Y).Perm (z :: (X ++ Y)) := fun X Y z => by
    rw [List.append_assoc]
    exact List.perm_middle
  have q : (f :: (A ++ B)).Perm (f :: (C ++ D)) := (pm A B f).symm.trans (by rw [← e2, e3]; exact pm C D f)
  rw [e4, e1]
  exact (pm C D i).trans (((List.perm_cons f).mp q).symm.cons i |>.trans (pm A B i).symm)
/-- a row with one part taken out and one set -/
theorem erase_helds : ∀ {ps : List Tr} {i : Nat} {p : Tr}, ps[i]? = some p → (Tr.helds ps).Perm (p.held ++ Tr.helds (ps.eraseIdx i))
  | [], _, _, h => by simp at h
  | r :: ps, 0, p, h => by
    simp at h
    subst h
    rw [List.eraseIdx_cons_zero, Tr.helds]
  | r :: ps, i + 1, p, h => by
    have ih := erase_helds (ps := ps) (i := i) (p := p) (by simpa using h)
    rw [List.eraseIdx_cons_succ, Tr.helds, Tr.helds]
    refine (List.Perm.append_left _ ih).trans ?_
    rw [← List.append_assoc, ← List.append_assoc]
    exact List.perm_append_comm.append_right _
theorem moved_helds {ps : List Tr} {g a : Nat} {k z : Int} {us : List Tr} (hg : ps[g]? = some (.t k us)) (ha : ps[a]? = some (.b z)) (ne : a ≠ g) : (Tr.helds ((ps.set g (.t k (us ++ [.b z]))).eraseIdx a)).Perm (Tr.helds ps) := by
  obtain ⟨A, B, h1, h2⟩ := set_split (.t k (us ++ [.b z])) hg
  have ha' : (ps.set g (.t k (us ++ [.b z])))[a]? = some (.b z) := by rw [List.getElem?_set, if_neg (Ne.symm ne)]; exact ha
  have h3 := erase_helds ha'
  rw [Tr.held] at h1 h2
  rw [Tr.held] at h3
  have e : Tr.helds (us ++ [.b z]) = Tr.helds us ++ [z] := by rw [helds_snoc, Tr.held]
  rw [e] at h2
  have p1 : (Tr.helds (ps.set g (.t k (us ++ [.b z])))).Perm (z :: Tr.helds ps) := by
    rw [h2, h1]
    have : A ++ (Tr.helds us ++ [z]) ++ B = (A ++ Tr.helds us) ++ z :: B := by simp [List.append_assoc]
    rw [this]
    exact List.perm_middle
  exact (List.perm_cons z).mp (h3.symm.trans p1)
end Own

namespace Own
open PySem PySem.Spec PyProof.Rows L2
/-! ### the repr of a tree tells the tree -/
def NoDig (r : List Nat) : Prop := ∀ c ∈ r.head?, c < 48 ∨ 57 < c
theorem dig_split : ∀ {A B r s : List Nat}, (∀ c ∈ A, 48 ≤ c ∧ c ≤ 57) → (∀ c ∈ B, 48 ≤ c ∧ c ≤ 57) → NoDig r → NoDig s → A ++ r = B ++ s → A = B ∧ r = s
  | [], [], _, _, _, _, _, _, h => ⟨rfl, h⟩
  | [], b :: B, r, s, _, hB, hr, _, h => by
    rw [List.nil_append] at h
    subst h
    have h1 := hr b rfl
    have h2 := hB b List.mem_cons_self
    omega
  | a :: A, [], r, s, hA, _, _, hs, h => by
    rw [List.nil_append] at h
    subst h
    have h1 := hs a rfl
    have h2 := hA a List.mem_cons_self
    omega
  | a :: A, b :: B, r, s, hA, hB, hr, hs, h => by
    rw [List.cons_append, List.cons_append, List.cons.injEq] at h
    obtain ⟨rfl, h⟩ := h
    obtain ⟨h1, h2⟩ := dig_split (fun c hc => hA c (List.mem_cons_of_mem _ hc)) (fun c hc => hB c (List.mem_cons_of_mem _ hc)) hr hs h
    exact ⟨by rw [h1], h2⟩
theorem num_split {m n : Nat} {r s : List Nat} (hr : NoDig r) (hs : NoDig s) (h : TL.numL m ++ r = TL.numL n ++ s) : m = n ∧ r = s := by
  obtain ⟨h1, h2⟩ := dig_split (fun c hc => TL.numL_digits m c hc) (fun c hc => TL.numL_digits n c hc) hr hs h
  exact ⟨TL.numL_inj h1, h2⟩
mutual
def cod : Tr → List Nat
  | .b i => TL.numL i.toNat
  | .t k ps => 40 :: (TL.numL k.toNat ++ (44 :: 32 :: 40 :: (cods ps ++ [41])))
def cods : List Tr → List Nat
  | [] => [41]
  | [p] => cod p ++ [44, 41]
  | p :: q :: r => cod p ++ codr (q :: r)
def codr : List Tr → List Nat
  | [] => [41]
  | p :: r => 44 :: 32 :: (cod p ++ codr r)
end
/-- buttons and bounds are no negative numbers -/
def Pos (t : Tr) : Prop := t.ok ∧ ∀ x ∈ t.held, 0 ≤ x
theorem nd_cons {c : Nat} {r : List Nat} (h : c < 48 ∨ 57 < c) : NoDig (c :: r) := fun d hd => by
  simp at hd
  subst hd
  exact h
theorem codr_nd (ps : List Tr) (r : List Nat) : NoDig (codr ps ++ r) := by
  cases ps with
  | nil => rw [codr]; exact nd_cons (by omega)
  | cons p ps => rw [codr]; exact nd_cons (by omega)
theorem num_ne (n : Nat) (r s : List Nat) : TL.numL n ++ r ≠ 40 :: s := fun h => by
  have hd := TL.numL_digits n
  cases e : TL.numL n with
  | nil => exact TL.numL_ne n e
  | cons c l =>
    rw [e] at h hd
    rw [List.cons_append, List.cons.injEq] at h
    have := hd c List.mem_cons_self
    omega
mutual
theorem cod_inj : ∀ (t u : Tr) (r s : List Nat), t.ok → u.ok → (∀ x ∈ t.held, 0 ≤ x) → (∀ x ∈ u.held, 0 ≤ x) → NoDig r → NoDig s → cod t ++ r = cod u ++ s → t = u ∧ r = s
  | .b i, .b j, r, s, _, _, hi, hj, hr, hs, h => by
    rw [cod, cod] at h
    obtain ⟨h1, h2⟩ := num_split hr hs h
    have a := hi i (by rw [Tr.held]; exact List.mem_singleton.mpr rfl)
    have b := hj j (by rw [Tr.held]; exact List.mem_singleton.mpr rfl)
    exact ⟨by rw [show i = j by omega], h2⟩
  | .b i, .t k ps, r, s, _, _, _, _, _, _, h => by
    rw [cod, cod, List.cons_append] at h
    exact absurd h (num_ne _ _ _)
  | .t k ps, .b j, r, s, _, _, _, _, _, _, h => by
    rw [cod, cod, List.cons_append] at h
    exact absurd h.symm (num_ne _ _ _)
  | .t k ps, .t l qs, r, s, ot, ou, ht, hu, hr, hs, h => by
    rw [Tr.ok] at ot ou
    rw [Tr.held] at ht hu
    rw [cod, cod, List.cons_append, List.cons_append, List.cons.injEq, List.append_assoc, List.append_assoc] at h
    obtain ⟨h1, h2⟩ := num_split (nd_cons (by omega)) (nd_cons (by omega)) h.2
    have kl : k = l := by omega
    have h2 : cods ps ++ (41 :: r) = cods qs ++ (41 :: s) := by
      have h2' := h2
      simp only [List.append_eq, List.cons_append, List.nil_append, List.append_assoc, List.cons.injEq, true_and] at h2'
      exact h2'
    match ps, qs, ot, ou, ht, hu, h2 with
    | [], _, ot, _, _, _, _ => exact absurd ot.2.1 (by simp; omega)
    | _ :: _, [], _, ou, _, _, _ => exact absurd ou.2.1 (by simp; omega)
    | [p], [q], ot, ou, ht, hu, h2 =>
      rw [Tr.oks] at ot ou
      rw [Tr.helds] at ht hu
      rw [cods, cods, List.append_assoc, List.append_assoc] at h2
      obtain ⟨e1, e2⟩ := cod_inj p q _ _ ot.2.2.1 ou.2.2.1 (fun x hx => ht x (List.mem_append_left _ hx)) (fun x hx => hu x (List.mem_append_left _ hx)) (nd_cons (c := 44) (by omega)) (nd_cons (c := 44) (by omega)) h2
      simp at e2
      exact ⟨by rw [kl, e1], e2⟩
    | [p], q :: q2 :: qs, ot, ou, ht, hu, h2 =>
      rw [Tr.oks] at ot ou
      rw [Tr.helds] at ht hu
      rw [cods, cods, List.append_assoc, List.append_assoc] at h2
      obtain ⟨e1, e2⟩ := cod_inj p q _ _ ot.2.2.1 ou.2.2.1 (fun x hx => ht x (List.mem_append_left _ hx)) (fun x hx => hu x (List.mem_append_left _ hx)) (nd_cons (c := 44) (by omega)) (codr_nd _ _) h2
      rw [codr] at e2
      simp at e2
    | p :: p2 :: ps, [q], ot, ou, ht, hu, h2 =>
      rw [Tr.oks] at ot ou
      rw [Tr.helds] at ht hu
      rw [cods, cods, List.append_assoc, List.append_assoc] at h2
      obtain ⟨e1, e2⟩ := cod_inj p q _ _ ot.2.2.1 ou.2.2.1 (fun x hx => ht x (List.mem_append_left _ hx)) (fun x hx => hu x (List.mem_append_left _ hx)) (codr_nd _ _) (nd_cons (c := 44) (by omega)) h2
      rw [codr] at e2
      simp at e2
    | p :: p2 :: ps, q :: q2 :: qs, ot, ou, ht, hu, h2 =>
      rw [Tr.oks] at ot ou
      rw [Tr.helds] at ht hu
      rw [cods, cods, List.append_assoc, List.append_assoc] at h2
      obtain ⟨e1, e2⟩ := cod_inj p q _ _ ot.2.2.1 ou.2.2.1 (fun x hx => ht x (List.mem_append_left _ hx)) (fun x hx => hu x (List.mem_append_left _ hx)) (codr_nd _ _) (codr_nd _ _) h2
      obtain ⟨e3, e4⟩ := codr_inj (p2 :: ps) (q2 :: qs) _ _ ot.2.2.2 ou.2.2.2 (fun x hx => ht x (List.mem_append_right _ hx)) (fun x hx => hu x (List.mem_append_right _ hx)) e2
      simp only [List.cons_append, List.nil_append, List.cons.injEq, true_and] at e4
      exact ⟨by rw [kl, e1, e3], e4⟩
theorem codr_inj : ∀ (ps qs : List Tr) (r s : List Nat), Tr.oks ps → Tr.oks qs → (∀ x ∈ Tr.helds ps, 0 ≤ x) → (∀ x ∈ Tr.helds qs, 0 ≤ x) → codr ps ++ r = codr qs ++ s → ps = qs ∧ r = s
  | [], [], r, s, _, _, _, _, h => by
    rw [codr] at h
    simp only [List.cons_append, List.nil_append, List.cons.injEq, true_and] at h
    exact ⟨rfl, h⟩
  | [], q :: qs, r, s, _, _, _, _, h => by
    rw [codr, codr] at h
    simp only [List.cons_append, List.nil_append, List.cons.injEq] at h
    exact absurd h.1 (by omega)
  | p :: ps, [], r, s, _, _, _, _, h => by
    rw [codr, codr] at h
    simp only [List.cons_append, List.nil_append, List.cons.injEq] at h
    exact absurd h.1 (by omega)
  | p :: ps, q :: qs, r, s, op, oq, hp, hq, h => by
    rw [Tr.oks] at op oq
    rw [Tr.helds] at hp hq
    rw [codr, codr] at h
    simp only [List.cons_append, List.cons.injEq, true_and, List.append_assoc] at h
    obtain ⟨e1, e2⟩ := cod_inj p q _ _ op.1 oq.1 (fun x hx => hp x (List.mem_append_left _ hx)) (fun x hx => hq x (List.mem_append_left _ hx)) (codr_nd ps r) (codr_nd qs s) h
    obtain ⟨e3, e4⟩ := codr_inj ps qs r s op.2 oq.2 (fun x hx => hp x (List.mem_append_right _ hx)) (fun x hx => hq x (List.mem_append_right _ hx)) e2
    exact ⟨by rw [e1, e3], e4⟩
end
theorem shown_int {i : Int} (h : 0 ≤ i) : TL.tl (PyData.shown (.int i)) = TL.numL i.toNat := by
  obtain ⟨n, rfl⟩ : ∃ n : Nat, i = n := ⟨i.toNat, by omega⟩
  rw [PyData.shown]
  exact TL.tl_num n
theorem tl_tuple (ts : List Str) : TL.tl (tupleText ts) = 40 :: (TL.joinL [44, 32] (ts.map TL.tl) ++ (if ts.length == 1 then [44, 41] else [41])) := by
  unfold tupleText
  rw [TL.tl_append, TL.tl_append, TL.tl_join]
  have e1 : TL.tl ("(" : Str) = [40] := rfl
  have e2 : TL.tl (", " : Str) = [44, 32] := rfl
  rw [e1, e2]
  cases ts.length == 1 <;> rfl
theorem joinL_cons (x : List Nat) : ∀ r : List (List Nat), TL.joinL [44, 32] (x :: r) = x ++ r.flatMap fun y => 44 :: 32 :: y
  | [] => by simp [TL.joinL]
  | y :: r => by
    rw [TL.joinL, joinL_cons y r, List.flatMap_cons]
    · simp
mutual
theorem tl_tr : ∀ t : Tr, t.ok → (∀ x ∈ t.held, 0 ≤ x) → TL.tl t.d.shown = cod t
  | .b i, _, h => by
    rw [Tr.d, cod]
    exact shown_int (h i (by rw [Tr.held]; exact List.mem_singleton.mpr rfl))
  | .t k ps, o, h => by
    rw [Tr.ok] at o
    rw [Tr.held] at h
    rw [Tr.d, PyData.shown, PyData.shownAll, PyData.shownAll, PyData.shownAll, tl_tuple]
    have hk := shown_int (i := k) (by omega)
    have hp : TL.tl (PyData.shown (.tuple (Tr.ds ps))) = 40 :: cods ps := by
      rw [PyData.shown, tl_tuple, tl_trs ps o.2.2 h]
      match ps, o with
      | [], o => exact absurd o.2.1 (by simp; omega)
      | [p], _ =>
        rw [cods, Tr.ds, Tr.ds, PyData.shownAll, PyData.shownAll, List.map_cons, List.map_nil, joinL_cons]
        simp
      | p :: q :: r, _ =>
        rw [cods, List.map_cons, joinL_cons]
        have e : ((PyData.shownAll (Tr.ds (p :: q :: r))).length == 1) = false := by
          rw [Tr.ds, Tr.ds, PyData.shownAll, PyData.shownAll]
          simp
        rw [e, List.append_assoc, if_neg Bool.false_ne_true, codr_flat]
    simp only [List.map_cons, List.map_nil]
    rw [joinL_cons, hk, hp]
    simp [cod]
theorem tl_trs : ∀ ps : List Tr, Tr.oks ps → (∀ x ∈ Tr.helds ps, 0 ≤ x) → (PyData.shownAll (Tr.ds ps)).map TL.tl = ps.map cod
  | [], _, _ => by rw [Tr.ds, PyData.shownAll]; rfl
  | p :: r, o, h => by
    rw [Tr.oks] at o
    rw [Tr.helds] at h
    rw [Tr.ds, PyData.shownAll, List.map_cons, List.map_cons, tl_tr p o.1 fun x hx => h x (List.mem_append_left _ hx), tl_trs r o.2 fun x hx => h x (List.mem_append_right _ hx)]
theorem codr_flat : ∀ ps : List Tr, (ps.map cod).flatMap (fun y => 44 :: 32 :: y) ++ [41] = codr ps
  | [] => by rw [codr]; rfl
  | p :: r => by rw [codr, List.map_cons, List.flatMap_cons, ← codr_flat r]; simp
end
theorem shown_inj {t u : Tr} (ot : t.ok) (ou : u.ok) (ht : ∀ x ∈ t.held, 0 ≤ x) (hu : ∀ x ∈ u.held, 0 ≤ x) (h : t.d.shown = u.d.shown) : t = u := by
  have e := congrArg TL.tl h
  rw [tl_tr t ot ht, tl_tr u ou hu] at e
  exact (cod_inj t u [] [] ot ou ht hu (fun c hc => nomatch hc) (fun c hc => nomatch hc) (by rw [List.append_nil, List.append_nil]; exact e)).1
end Own

namespace Own
open PySem PySem.Spec PyProof.Rows L2
/-! ### the set of a list of ints -/
/-- the set that set() lays down ahead of its items -/
abbrev bareSet (w : World) : Obj :=
  { cls := .type "set"
    dict := none
    data := .set #[] 0 (.fresh 0 0 (!w.params.followText "set-order")) }
theorem bare_get (w : World) (h : Heap) : (h.push (bareSet w)).get? h.objs.size = some (bareSet w) :=
  Heap.get?_push_size _ rfl
theorem ints_nth {us : Array Value} {ns : List Int} (hi : IntsAre us.toList ns) (i : Nat) (v : Value) (hv : us[i]? = some v) :
    ∃ k t, ns[i]? = some k ∧ v = .int k t := by
  obtain ⟨t, e⟩ := PyProof.Rows.IntsAre.int_at hi i v ((Array.getElem?_toList ..).trans hv)
  have hl := IntsAre.length hi
  rw [Array.length_toList] at hl
  have hi2 : i < ns.length := hl ▸ (Array.getElem?_eq_some_iff.mp hv).1
  exact ⟨ns[i], t, List.getElem?_eq_getElem hi2, by rw [e, List.getD_eq_getElem?_getD, List.getElem?_eq_getElem hi2]; rfl⟩
set_option maxHeartbeats 8000000 in
theorem set_of_ints {P : Program} {w : World} {A : Around} {E : Value → Shared → Prop} {s : Shared} {d : Addr} {us : Array Value} (ns : List Int)
    {Q : Value → Shared → Prop} (ha : A.handled = none) (hd : s.heap.IsList d us) (hi : IntsAre us.toList ns) (hn : ns.length + 1 < scanBound)
    (hq : ∀ (g : Heap) (m c : Nat), SetR w g s.heap.objs.size (fun j => decide (j ∈ ns)) c → c ≤ ns.length →
      (∀ b o, s.heap.get? b = some o → g.get? b = some o) → Q (.ref s.heap.objs.size) { s with heap := g, toks := m }) :
    wpAny (model P w) A (call (.type "set") [.ref d]) Q E s := by
  have hlen : us.size = ns.length := by
    rw [← Array.length_toList]
    exact IntsAre.length hi
  obtain ⟨_, _, mro⟩ := F.called_set.mro
  have made := F.called_set.made
  have subs := F.called_set.sub
  refine wpAny_call (codeAny_of_tree (show wpAny _ _ (callAny (.type "set") _) _ _ _ from ?_))
  refine wpAny_pure ⟨Code.quiet_builtin _ (by decide +kernel), ?_⟩
  refine codeAny_builtin F.entry_type_call ?_
  rw [Around.under_plain (weight_type_call_type "set" [.ref d] []) rfl]
  have notT := F.called_set.notType
  have canC := F.called_set.canCreate
  have typC := F.typeCall_set_1 (.ref d)
  repeat any_goals first | assumption | wp_step
  let s1 : Shared := { s with heap := s.heap.push (bareSet w) }
  refine codeAny_mono (code_set_led1 (.ref d) (E := E) (Q₁ := fun v t => v = .ref s.heap.objs.size ∧ t = s1) ⟨rfl, rfl⟩) ?_
  intro r t hr
  match r, hr with
  | .error e, hr => exact hr
  | .ok (.ret v), hr =>
    obtain ⟨rfl, rfl⟩ := hr
    have isS : Shared.TypeIs s1 (.ref s.heap.objs.size) "set" := ⟨_, bare_get w s.heap, rfl⟩
    have look := F.called_set.init.lookup
    have bind := F.called_set.init.bind (.ref s.heap.objs.size)
    repeat any_goals first | assumption | wp_step
    refine codeAny_mono (codeAny_call_builtin (R := wants (fun v t => v = .none ∧ ∃ g m c, t = { s with heap := g, toks := m } ∧
      SetR w g s.heap.objs.size (fun j => decide (j ∈ ns)) c ∧ c ≤ ns.length ∧ ∀ b o, s.heap.get? b = some o → g.get? b = some o) E)
      F.called_set.init.plain F.entry_set_init (check_set_init_1 isS ?_)) ?_
    · have hlist := hd.push (bareSet w)
      obtain ⟨⟨oc, od, ot, os⟩, got, cl, nl, dat⟩ := hd
      simp only at cl dat
      subst cl dat
      have got1 := Heap.get?_push_of_some (bareSet w) got
      have noSet := F.sub_list_set
      have noFz := F.sub_list_frozenset
      have noD : (Value.type "list" == Value.type "dict") = false := rfl
      unfold Builtin.«set.__init__» noKeywords Builtin.Frozenset.updateFrom
      generalize eIter : pyIter = it
      wp_walk
      subst eIter
      refine wpAny_pyIter_list hlist ?_
      refine wpAny_bind (wpAny_runValue ?_)
      have old : d < s.heap.objs.size := Heap.lt_size got
      have new1 : (s.heap.push (bareSet w)).objs.size = s.heap.objs.size + 1 := Heap.size_push ..
      have calm : A.in1.in1.in1.handled = none := by simp [ha]
      have apart : d ≠ (s.heap.push (bareSet w)).objs.size := by
        rw [new1]
        exact Nat.ne_of_lt (Nat.lt_succ_of_lt old)
      refine set_update_ints (Walks.list calm _ d apart us).toS s.heap.objs.size ?_ ns hlen hn (ints_nth hi) (us.size - 0) 0 _ (by omega) (Nat.zero_le _) ?_ ?_ ?_
      · intro z
        rcases List.mem_cons.mp z with z | z
        · rw [new1] at z
          exact Nat.ne_of_lt (Nat.lt_succ_self _) z
        · exact Nat.ne_of_gt old (List.mem_singleton.mp z)
      · exact ⟨⟨_, Heap.get?_push_size _ rfl, rfl, rfl⟩, hlist.push _⟩
      · exact ⟨0, Nat.le_refl 0, setR_new_at (Heap.get?_push_of_some _ (bare_get w s.heap))⟩
      · intro t c hm hc hS
        obtain ⟨g, gs, dr, m, osx⟩ := t
        have e1 : gs = s.gens := hm.gens
        have e2 : dr = s.drawn := hm.drawn
        have e3 : osx = s.os := hm.os
        subst e1 e2 e3
        refine wpAny_pure (show wpAny _ _ (ret Value.none) _ _ _ from ?_)
        refine wpAny_pure ⟨rfl, g, m, c, rfl, hS, hlen ▸ hc, fun b o e => ?_⟩
        have hb := Heap.lt_size e
        refine hm.heap b o (fun z => ?_) (Heap.get?_push_of_some _ (Heap.get?_push_of_some _ e))
        rcases List.mem_cons.mp z with z | z
        · exact Nat.ne_of_lt hb z
        · have z := List.mem_singleton.mp z
          rw [new1] at z
          exact Nat.ne_of_lt (Nat.lt_succ_of_lt hb) z
    · intro r2 t2 hr2
      match r2, hr2 with
      | .error e, hr2 => exact hr2
      | .ok (.ret v), hr2 =>
        obtain ⟨rfl, g, m, c, rfl, hS, hc, hk⟩ := hr2
        repeat any_goals first | assumption | wp_step
        exact hq _ _ _ hS hc hk
def rSetLstI (K : PySem.W.Frag) (w : World) : List V → Hp → VK → Prop := fun xs H Q => ∃ (p : Addr) (ns : List Int), xs = [V.ref p] ∧ SqL K H p (ns.map V.int) ∧ ns.length ≤ 1000 ∧
  ∀ (a : Addr) (c : Nat), H a = none → c ≤ ns.length → Q (.ref a) (upd H a (SetO w a (fun j => decide (j ∈ ns)) c))
theorem cr_setLstI {X : Cx} (hc : X.calm = true) : CallR X (.type "set") (rSetLstI X.K X.w) := by
  intro pins s σ H xs us Q I r h
  obtain ⟨p, ns, rfl, hs, hb, q⟩ := h
  rw [Vals.ref1 r]
  obtain ⟨its, rv, ht, hz⟩ := I.list hs
  have pl : s.heap.IsList p its.toArray := by
    obtain ⟨o, n, x1, x2, x3, x4⟩ := ht
    exact ⟨o, x1, x2, n, x4⟩
  refine set_of_ints ns (I.ok.hd hc) pl rv.ints (Nat.lt_of_le_of_lt (Nat.succ_le_succ hb) (by decide)) fun h' tk c R hcl keep => ?_
  have ho := I.hok.fresh (Nat.le_refl s.heap.objs.size)
  exact ⟨.ref _, upd H s.heap.objs.size (SetO X.w s.heap.objs.size (fun j => decide (j ∈ ns)) c), I.laid (t' := tk) keep (Nat.le_refl _) (setO_new R), rfl, q _ c ho hcl⟩
end Own

namespace Own
open PySem PySem.Spec PyProof.Rows L2
/-! ### isinstance of the error that a suite holds, whatever class it is of -/
def rIsS (K : PySem.W.Frag) (cls : Value) (d : Option Addr) (a : Addr) : List V → Hp → VK → Prop := fun xs H Q => ∃ D : Addr, cls = .ref D ∧ d = none ∧ ExcC K D ∧ rIsE K D a xs H Q
theorem call_isS {X : Cx} {a : Addr} {oe : Obj} {cls : Value} {d : Option Addr} {pn : List (Addr × Obj)} (hz : Zc cls d oe) (hf : ∃ vs, oe.data = .fields vs) : CallR (X.suite a ((a, oe) :: pn)) (.builtin "isinstance") (rIsS X.K cls d a) := by
  intro pins s σ H xs us Q I r h
  obtain ⟨D, e1, e2, C, h⟩ := h
  subst e1 e2
  exact call_isE C hz hf pins s σ H xs us Q I r h
theorem kit_self (K : PySem.W.Frag) (D : Addr) : PySem.W.kitOne K (.ref D) (.ref D) = some true := by
  unfold PySem.W.kitOne
  rw [if_pos (by simp)]
end Own

namespace Own
open PySem PySem.Spec PyProof.Rows L2
/-! ### comb; xs[i] += e -/
def rComb : List V → Hp → VK → Prop := fun vs H Q => ∃ a b : Int, vs = [.int a, .int b] ∧ 0 ≤ a ∧ 0 ≤ b ∧ a < 2 ^ 64 ∧ b ≤ 9000 ∧ Q (.int (PySem.W.mcComb a b)) H
theorem cr_comb {X : Cx} : CallR X (.builtin "math.comb") rComb := by
  intro pins s σ H vs us Q I r h
  obtain ⟨a, b, rfl, h1, h2, h3, h4, q⟩ := h
  obtain ⟨t, u, rfl⟩ := Vals.int2 r
  exact PySem.W.mc_comb h1 h2 h3 (.inl h4) fun _ => ⟨.int _, H, I.tok _, ⟨_, rfl⟩, q⟩
/-- an item of a list at a place that is not below 0 -/
def rGetL (K : PySem.W.Frag) : V → V → Hp → VK → Prop := fun x y H Q => ∃ (p : Addr) (xs : List V) (j : Nat) (v : V), x = .ref p ∧ y = .int (j : Int) ∧ SqL K H p xs ∧ xs[j]? = some v ∧ Q v H
theorem get_list {X : Cx} : PGet X (rGetL X.K) := by
  intro pins s σ H x y v u Q I rx ry h
  obtain ⟨p, xs, j, z, rfl, rfl, hq, he, q⟩ := h
  cases rx
  obtain ⟨t, rfl⟩ := ry
  obtain ⟨its, r, pl, hz⟩ := I.list hq
  obtain ⟨w, ew, rw'⟩ := r.get he
  have hj := (List.getElem?_eq_some_iff.mp he).1
  have hn := line63
  have hs : sizeLine = 16777216 := sizeLine_eq
  exact wpAny_getItem_list pl.isList (by omega) (by omega) (x := w) (by rw [Int.toNat_natCast]; simpa using ew) ⟨z, H, I, rw', q⟩
end Own

namespace Own
open PySem PySem.Spec PyProof.Rows L2
/-! ### the sum of a tuple of ints, of a list of them -/
section
variable {prog : Program} {w : World} {A : Around} {E : Value → Shared → Prop} {s : Shared} {l : Addr} {its : List Value} {ns : List Int} {Q : Value → Shared → Prop}
theorem sum_tup (hh : A.handled = none) (hl : s.heap.IsTuple l its.toArray) (hi : IntsAre its ns)
    (h : ∀ h' tk t', (∀ b o, s.heap.get? b = some o → h'.get? b = some o) → Q (.int ns.sum t') { s with heap := h', toks := tk }) : wpAny (model prog w) A (call (.builtin "sum") [.ref l]) Q E s := by
  obtain ⟨xs, e⟩ := hi.allInts.items
  have hn : numsOf (intItems xs).toList = ns := by rw [← e]; exact hi.numsOf
  rw [nums_intItems] at hn
  rw [e] at hl
  have hlt : l < s.heap.objs.size := by obtain ⟨_, e, _⟩ := hl; exact Heap.lt_size e
  refine PySem.call_sum_walkG (PySem.wpAny_pyIter_tuple hl ?_)
  have hI : (s.heap.push { cls := .type "tuple_iterator", data := .fields #[.ref l, .int 0 0] }).IsTupleIter s.heap.objs.size l 0 := ⟨_, Heap.get?_push_size _ rfl, rfl, rfl⟩
  refine ⟨_, _, _, _, _, _, numAt xs, rfl, Walks.tuple (A := A.in1) hh _ l (Nat.ne_of_lt hlt) (intItems xs), ⟨hI, hl.at fun o e => Heap.get?_push_of_some _ e⟩, ?_, (fun _ _ => intItems_at), fun h' tk t' hk => ?_⟩
  · intro b hb
    show b < (s.heap.push _).objs.size
    rw [Heap.size_push]
    rcases List.mem_cons.mp hb with rfl | hb
    · exact Nat.lt_succ_self _
    · rcases List.mem_cons.mp hb with rfl | hb
      · exact Nat.lt_succ_of_lt hlt
      · cases hb
  · have := h h' tk t' fun b o e => hk b o (fun hm => Nat.ne_of_lt (Heap.lt_size e) (List.mem_singleton.mp hm)) (Heap.get?_push_of_some _ e)
    have hs : preSum (numAt xs) (intItems xs).size = ns.sum := by
      rw [show (intItems xs).size = xs.size by simp [intItems], preSum_eq, List.take_of_length_le (by simp), hn]
    rw [hs]
    exact this
end
def rSumT (K : PySem.W.Frag) : List V → Hp → VK → Prop := fun vs H Q => ∃ (a : Addr) (ns : List Int), vs = [V.ref a] ∧ (SqT K H a (ns.map V.int) ∨ SqL K H a (ns.map V.int)) ∧ Q (.int ns.sum) H
theorem cr_sumT {X : Cx} (hc : X.calm = true) : CallR X (.builtin "sum") (rSumT X.K) := by
  intro pins s σ H vs us Q I r h
  obtain ⟨a, ns, rfl, hs | hs, q⟩ := h
  · obtain ⟨its, rv, hl, _⟩ := I.tuple hs
    rw [Vals.ref1 r]
    obtain ⟨o, x1, x2, n, x3⟩ := hl
    exact sum_tup (I.ok.hd hc) ⟨o, x1, x2, n, x3⟩ rv.ints fun h' tk t' hk => ⟨.int _, H, I.kept hk, ⟨_, rfl⟩, q⟩
  · exact cr_sum hc pins s σ H _ us Q I r ⟨a, ns, rfl, hs, q⟩
section
variable {prog : Program} {w : World} {A : Around} {E : Value → Shared → Prop} {s : Shared} {l : Addr} {its : List Value} {ns : List Int} {Q : Value → Shared → Prop}
theorem max_tup (hh : A.handled = none) (hl : s.heap.IsTuple l its.toArray) (hi : IntsAre its ns) (hne : 0 < ns.length)
    (h : ∀ h' tk M t', (∀ b o, s.heap.get? b = some o → h'.get? b = some o) → M ∈ ns → (∀ a, a ∈ ns → a ≤ M) → Q (.int M t') { s with heap := h', toks := tk }) : wpAny (model prog w) A (call (.builtin "max") [.ref l]) Q E s := by
  obtain ⟨xs, e⟩ := hi.allInts.items
  have hn : numsOf (intItems xs).toList = ns := by rw [← e]; exact hi.numsOf
  rw [nums_intItems] at hn
  subst hn
  rw [e] at hl
  have hsz : 0 < xs.size := by simpa using hne
  have hlt : l < s.heap.objs.size := by obtain ⟨_, e, _⟩ := hl; exact Heap.lt_size e
  refine PySem.call_max_walk (PySem.wpAny_pyIter_tuple hl ?_)
  have hI : (s.heap.push { cls := .type "tuple_iterator", data := .fields #[.ref l, .int 0 0] }).IsTupleIter s.heap.objs.size l 0 := ⟨_, Heap.get?_push_size _ rfl, rfl, rfl⟩
  refine ⟨_, _, _, _, _, _, _, rfl, Walks.tuple (A := A.in1) hh _ l (Nat.ne_of_lt hlt) (intItems xs), ⟨hI, hl.at fun o e => Heap.get?_push_of_some _ e⟩, ?_, by simpa [intItems] using hsz, CmpOf.ints_gt (numAt xs) (fun _ _ => intItems_at), fun v h' tk hP hk => ?_⟩
  · intro b hb
    show b < (s.heap.push _).objs.size
    rw [Heap.size_push]
    rcases List.mem_cons.mp hb with rfl | hb
    · exact Nat.lt_succ_self _
    · rcases List.mem_cons.mp hb with rfl | hb
      · exact Nat.lt_succ_of_lt hlt
      · cases hb
  · have hv : (intItems xs)[argBest (fun i j => decide (numAt xs i > numAt xs j)) (xs.size - 1)]? = some v := by simpa [intItems] using hP
    obtain ⟨t, rfl⟩ := intItems_at hv
    obtain ⟨h1, h2⟩ := argBest_gt (numAt xs) (xs.size - 1)
    refine h h' tk _ t (fun b o e => hk b o (fun hm => Nat.ne_of_lt (Heap.lt_size e) (List.mem_singleton.mp hm)) (Heap.get?_push_of_some _ e)) ?_ fun a ha => ?_
    · rw [numAt_eq]; exact PySem.getD_mem (by rw [List.length_map, Array.length_toList]; omega)
    · obtain ⟨j, hj, rfl⟩ := mem_getD ha
      rw [List.length_map, Array.length_toList] at hj
      rw [← numAt_eq]; exact h2 j (by omega)
end
def rMaxT (K : PySem.W.Frag) : List V → Hp → VK → Prop := fun vs H Q => ∃ (a : Addr) (ns : List Int), vs = [V.ref a] ∧ SqT K H a (ns.map V.int) ∧ 0 < ns.length ∧ ∀ m, m ∈ ns → (∀ y, y ∈ ns → y ≤ m) → Q (.int m) H
theorem cr_maxT {X : Cx} (hc : X.calm = true) : CallR X (.builtin "max") (rMaxT X.K) := by
  intro pins s σ H vs us Q I r h
  obtain ⟨a, ns, rfl, hs, hne, q⟩ := h
  obtain ⟨its, rv, hl, _⟩ := I.tuple hs
  rw [Vals.ref1 r]
  obtain ⟨o, x1, x2, n, x3⟩ := hl
  exact max_tup (I.ok.hd hc) ⟨o, x1, x2, n, x3⟩ rv.ints hne fun h' tk m t' hk h1 h2 => ⟨.int _, H, I.kept hk, ⟨_, rfl⟩, q m h1 h2⟩
end Own

namespace Own
open PySem PySem.Spec PyProof.Rows L2
/-! ### tables of numbers, so written that the kernel reckons them -/
abbrev Tb := List (List Nat)
/-- k x, x reckoned first -/
@[reducible] def fz {α : Type} (x : Nat) (k : Nat → α) : α := Nat.rec (motive := fun _ => α) (k 0) (fun n _ => k (n + 1)) x
theorem fz_eq {α : Type} (x : Nat) (k : Nat → α) : fz x k = k x := by cases x <;> rfl
def addTo : List Nat → Nat → Nat → List Nat
  | [], _, _ => []
  | y :: r, 0, x => fz (y + x) fun v => v :: r
  | y :: r, j + 1, x => y :: addTo r j x
def addAt : Tb → Nat → Nat → Nat → Tb
  | [], _, _, _ => []
  | y :: r, 0, j, x => addTo y j x :: r
  | y :: r, i + 1, j, x => y :: addAt r i j x
def fall (a : Nat) : Nat → Nat
  | 0 => 1
  | k + 1 => fall a k * (a - k)
def combN (a k : Nat) : Nat := if a < k then 0 else fall a (min k (a - k)) / fall (min k (a - k)) (min k (a - k))
def manyB (size kinds i j ways : Nat) : Nat → Tb → Tb
  | 0, F => F
  | m + 1, F => fz (ways * combN (kinds + m - 1) m) fun v => addAt (manyB size kinds i j ways m F) (i + m) (j + m * size) v
def rowB (n size kinds i : Nat) : Nat → List Nat → Tb → Tb
  | _, [], F => F
  | j, 0 :: r, F => rowB n size kinds i (j + 1) r F
  | j, (w + 1) :: r, F => rowB n size kinds i (j + 1) r (manyB size kinds i j (w + 1) ((n - j) / size + 1) F)
def tabB (n size kinds : Nat) : Nat → Tb → Tb → Tb
  | _, [], F => F
  | i, row :: r, F => tabB n size kinds (i + 1) r (rowB n size kinds i 0 row F)
def zerosT (n : Nat) : Tb := List.replicate (n + 1) (List.replicate (n + 1) 0)
def withB (n : Nat) (R : Tb) (size kinds : Nat) : Tb := tabB n size kinds 0 R (zerosT n)
def none0 (n : Nat) : Tb := addAt (zerosT n) 0 0 1
def nth : List Nat → Nat → Nat
  | [], _ => 0
  | x :: _, 0 => x
  | _ :: r, k + 1 => nth r k
def colSum : Tb → Nat → Nat
  | [], _ => 0
  | r :: R, k => nth r k + colSum R k
/-- the sum of (place - 2) times the number there, beyond place 2 -/
def someOf : List Nat → Nat → Nat
  | [], _ => 0
  | x :: r, i => (i - 2) * x + someOf r (i + 1)
def colAt (R : Tb) (k : Nat) : List Nat := R.map fun r => nth r k
theorem colSum_eq : ∀ (R : Tb) (k : Nat), colSum R k = (colAt R k).sum
  | [], _ => rfl
  | r :: R, k => by rw [colSum, colAt, List.map_cons, List.sum_cons, colSum_eq R k]; rfl
theorem rowB_snoc (n size kinds i : Nat) : ∀ (A : List Nat) (j w : Nat) (F : Tb), rowB n size kinds i j (A ++ [w]) F = if w = 0 then rowB n size kinds i j A F else manyB size kinds i (j + A.length) w ((n - (j + A.length)) / size + 1) (rowB n size kinds i j A F)
  | [], j, 0, F => by rw [List.nil_append, rowB, rowB, rowB]; rfl
  | [], j, w + 1, F => by rw [List.nil_append, rowB, rowB, rowB, if_neg (by omega)]; rfl
  | 0 :: A, j, w, F => by
    rw [List.cons_append, rowB, rowB_snoc n size kinds i A (j + 1) w F, rowB, List.length_cons, show j + 1 + A.length = j + (A.length + 1) by omega]
  | (v + 1) :: A, j, w, F => by
    rw [List.cons_append, rowB, rowB_snoc n size kinds i A (j + 1) w, rowB, List.length_cons, show j + 1 + A.length = j + (A.length + 1) by omega]
theorem tabB_snoc (n size kinds : Nat) : ∀ (A : Tb) (i : Nat) (r : List Nat) (F : Tb), tabB n size kinds i (A ++ [r]) F = rowB n size kinds (i + A.length) 0 r (tabB n size kinds i A F)
  | [], i, r, F => by rw [List.nil_append, tabB, tabB, tabB]; rfl
  | a :: A, i, r, F => by
    rw [List.cons_append, tabB, tabB_snoc n size kinds A (i + 1) r, tabB, List.length_cons, show i + 1 + A.length = i + (A.length + 1) by omega]
theorem addTo_len : ∀ (r : List Nat) (j x : Nat), (addTo r j x).length = r.length
  | [], _, _ => rfl
  | y :: r, 0, x => by rw [addTo, fz_eq]; rfl
  | y :: r, j + 1, x => by rw [addTo, List.length_cons, List.length_cons, addTo_len r j x]
theorem addAt_len : ∀ (F : Tb) (i j x : Nat), (addAt F i j x).length = F.length
  | [], _, _, _ => rfl
  | y :: r, 0, j, x => by rw [addAt]; rfl
  | y :: r, i + 1, j, x => by rw [addAt, List.length_cons, List.length_cons, addAt_len r i j x]
def nats (r : List Nat) : List V := r.map fun (x : Nat) => V.int (x : Int)
theorem nats_len (r : List Nat) : (nats r).length = r.length := List.length_map _
theorem nats_get {r : List Nat} {j : Nat} {v : V} (h : (nats r)[j]? = some v) : ∃ x : Nat, r[j]? = some x ∧ v = .int (x : Int) := by
  unfold nats at h
  rw [List.getElem?_map] at h
  cases e : r[j]? with
  | none => rw [e] at h; cases h
  | some x => rw [e] at h; exact ⟨x, rfl, (Option.some.inj h).symm⟩
theorem nats_at {r : List Nat} {j : Nat} {x : Nat} (h : r[j]? = some x) : (nats r)[j]? = some (.int (x : Int)) := by
  unfold nats
  rw [List.getElem?_map, h]
  rfl
theorem nats_set : ∀ {r : List Nat} {j x y : Nat}, r[j]? = some y → (nats r).set j (.int ((y : Int) + (x : Int))) = nats (addTo r j x)
  | [], _, _, _, h => by simp at h
  | z :: r, 0, x, y, h => by
    simp at h
    subst h
    rw [addTo, fz_eq]
    rfl
  | z :: r, j + 1, x, y, h => by
    have := nats_set (r := r) (j := j) (x := x) (y := y) (by simpa using h)
    rw [addTo]
    show V.int z :: (nats r).set j _ = V.int z :: nats (addTo r j x)
    rw [this]
theorem nth_get : ∀ {r : List Nat} {j x : Nat}, r[j]? = some x → nth r j = x
  | [], _, _, h => by simp at h
  | z :: r, 0, x, h => by simpa [nth] using h
  | z :: r, j + 1, x, h => by rw [nth]; exact nth_get (by simpa using h)
theorem nth_addTo : ∀ (r : List Nat) (j x k : Nat), k ≠ j → nth (addTo r j x) k = nth r k
  | [], _, _, _, _ => rfl
  | y :: r, 0, x, 0, h => absurd rfl h
  | y :: r, 0, x, k + 1, _ => by rw [addTo, fz_eq, nth, nth]
  | y :: r, j + 1, x, 0, _ => by rw [addTo, nth, nth]
  | y :: r, j + 1, x, k + 1, h => by rw [addTo, nth, nth]; exact nth_addTo r j x k (by omega)
def cell (R : Tb) (i j : Nat) : Nat := nth ((R[i]?).getD []) j
theorem cell_addAt : ∀ (F : Tb) (a b x i j : Nat), (i = a → j ≠ b) → cell (addAt F a b x) i j = cell F i j
  | [], _, _, _, _, _, _ => rfl
  | y :: r, 0, b, x, 0, j, h => by
    rw [addAt]
    show nth (addTo y b x) j = nth y j
    exact nth_addTo y b x j (h rfl)
  | y :: r, 0, b, x, i + 1, j, _ => by rw [addAt]; rfl
  | y :: r, a + 1, b, x, 0, j, _ => by rw [addAt]; rfl
  | y :: r, a + 1, b, x, i + 1, j, h => by
    rw [addAt]
    have := cell_addAt r a b x i j (fun e => h (by omega))
    unfold cell at this ⊢
    simpa using this
structure Shp (n : Nat) (F : Tb) : Prop where
  len : F.length = n + 1
  row : ∀ r ∈ F, r.length = n + 1
  tri : ∀ i j, j < i → cell F i j = 0
theorem mem_addAt : ∀ {F : Tb} {a b x : Nat} {r : List Nat}, r ∈ addAt F a b x → r ∈ F ∨ ∃ s ∈ F, r = addTo s b x
  | [], _, _, _, _, h => by rw [addAt] at h; cases h
  | y :: F, 0, b, x, r, h => by
    rw [addAt] at h
    rcases List.mem_cons.mp h with h | h
    · exact .inr ⟨y, List.mem_cons_self, h⟩
    · exact .inl (List.mem_cons_of_mem _ h)
  | y :: F, a + 1, b, x, r, h => by
    rw [addAt] at h
    rcases List.mem_cons.mp h with h | h
    · exact .inl (h ▸ List.mem_cons_self)
    · rcases mem_addAt h with h | ⟨s, hs, e⟩
      · exact .inl (List.mem_cons_of_mem _ h)
      · exact .inr ⟨s, List.mem_cons_of_mem _ hs, e⟩
theorem Shp.add {n : Nat} {F : Tb} (h : Shp n F) {a b : Nat} (x : Nat) (hab : a ≤ b) : Shp n (addAt F a b x) where
  len := by rw [addAt_len, h.len]
  row := fun r hr => by
    rcases mem_addAt hr with z | ⟨s, hs, rfl⟩
    · exact h.row r z
    · rw [addTo_len]
      exact h.row s hs
  tri := fun i j hij => by
    rw [cell_addAt F a b x i j (fun e => by omega)]
    exact h.tri i j hij
theorem Shp.zeros (n : Nat) : Shp n (zerosT n) where
  len := List.length_replicate
  row := fun r hr => by rw [(List.mem_replicate.mp hr).2, List.length_replicate]
  tri := fun i j _ => by
    unfold cell zerosT
    have z : ∀ (m k : Nat), nth (List.replicate m 0) k = 0 := fun m => by
      induction m with
      | zero => intro k; rfl
      | succ m ih =>
        intro k
        rw [List.replicate_succ]
        cases k with
        | zero => rfl
        | succ k => exact ih k
    by_cases hi : i < n + 1
    · rw [List.getElem?_replicate_of_lt hi]
      exact z _ _
    · rw [List.getElem?_eq_none (by rw [List.length_replicate]; omega)]
      rfl
theorem fall_eq (a : Nat) : ∀ k, k ≤ a → Builtin.Math.fallingProduct (a : Int) k = ((fall a k : Nat) : Int)
  | 0, _ => rfl
  | k + 1, h => by
    have ih := fall_eq a k (by omega)
    unfold Builtin.Math.fallingProduct at ih ⊢
    rw [List.range_succ, List.foldl_append, ih, fall, Int.natCast_mul]
    show ((fall a k : Nat) : Int) * ((a : Int) - (k : Int)) = _
    rw [Int.ofNat_sub (by omega)]
theorem comb_eq (a k : Nat) : PySem.W.mcComb (a : Int) (k : Int) = ((combN a k : Nat) : Int) := by
  unfold PySem.W.mcComb combN
  by_cases h : a < k
  · rw [if_pos (by omega), if_pos h]
    rfl
  · rw [if_neg (by omega), if_neg h]
    have e : min (k : Int) ((a : Int) - (k : Int)) = ((min k (a - k) : Nat) : Int) := by omega
    rw [e, Int.toNat_natCast, fall_eq a _ (by omega), fall_eq (min k (a - k)) _ (Nat.le_refl _)]
    rfl
theorem someOf_snoc : ∀ (r : List Nat) (i x : Nat), someOf (r ++ [x]) i = someOf r i + (i + r.length - 2) * x
  | [], i, x => by simp [someOf]
  | y :: r, i, x => by
    rw [List.cons_append, someOf, someOf, someOf_snoc r (i + 1) x, List.length_cons, show i + 1 + r.length = i + (r.length + 1) by omega]
    omega
theorem nats_ints (r : List Nat) : nats r = (r.map fun (x : Nat) => (x : Int)).map V.int := by
  unfold nats
  rw [List.map_map]
  rfl
theorem sum_cast : ∀ r : List Nat, (r.map fun (x : Nat) => (x : Int)).sum = ((r.sum : Nat) : Int)
  | [] => rfl
  | x :: r => by rw [List.map_cons, List.sum_cons, List.sum_cons, sum_cast r]; omega
theorem nats_app (a b : List Nat) : nats (a ++ b) = nats a ++ nats b := List.map_append
end Own

namespace Own
open PySem PySem.Spec PyProof.Rows L2

/-! ### sorted(xs), xs a list of tuples of data, the empty one among them *--/
section
variable {prog : Program} {w : World} {A : Around} {E : Value → Shared → Prop} {s : Shared}
theorem call_tuple_lt {Q : Value → Shared → Prop} {l b : Addr} {items items2 : Array Value} {e r : Nat → Bool} (hl : s.heap.IsTuple l items) (hb : s.heap.IsTuple b items2)
    (he : ∀ j (h1 : j < items.size) (h2 : j < items2.size), SeqAt.EqAt A.in1 s items[j] items2[j] (e j)) (hr : ∀ j (h1 : j < items.size) (h2 : j < items2.size), e j = false → SeqAt.RcLt A.in1 s items[j] items2[j] (r j))
    (h : Q (.bool (SeqAt.firstLt e r (decide (items.size < items2.size)) (List.range (min items.size items2.size)))) s) : wpAny (model prog w) A (call (.builtin "tuple.__lt__") [.ref l, .ref b]) Q E s := by
  obtain ⟨⟨cls, dd, data, sl⟩, ho, hc, n, hd⟩ := id hl
  obtain ⟨⟨cls2, dd2, data2, sl2⟩, ho2, hc2, n2, hd2⟩ := id hb
  simp only at hc hd hc2 hd2
  subst hc hd hc2 hd2
  exact PySem.call_meets PySem.F.slot_tuple_lt ⟨_, ho, rfl⟩ PySem.F.entry_tuple_lt (PySem.F.args_tuple_lt_2 _ _) (SeqAt.tuple_ltAt l b items items2 n n2 dd dd2 sl sl2 e r) ⟨ho, ho2, he, hr, h⟩
theorem oneLt_tuples {f : Bool} {xs ys : List PyData} {a b : Value} {as bs : List Addr} {Q : Bool → Shared → Prop} (ra : Reads s.heap a (.tuple xs) as) (rb : Reads s.heap b (.tuple ys) bs) (h : PySem.W.alike (.tuple xs) (.tuple ys) = true)
    (hu : A.units + min (PyData.tuple xs).depth (PyData.tuple ys).depth < cLine) (hq : Q (PySem.W.dataLt (.tuple xs) (.tuple ys)) s) : wpAny (model prog w) A (oneLt' f a b) Q E s := by
  cases f with
  | false => exact PySem.W.oneLt_alike (fun z => nomatch z) ra rb h (fun z => nomatch z) hu hq
  | true =>
    have hal : PySem.W.alikeAll xs ys = true := by simpa [PySem.W.alike] using h
    cases ra with
    | @tuple l o vs n _ as₁ h1 h2 h3 h4 =>
      cases rb with
      | @tuple l' o' vs' n' _ bs₁ k1 k2 k3 k4 =>
        have n1 : vs.size = xs.length := by simpa using SeqAt.ReadsAll.length _ _ _ h4
        have n2 : vs'.size = ys.length := by simpa using SeqAt.ReadsAll.length _ _ _ k4
        rw [PySem.W.dataLt_tuple, ← PySem.W.firstLt_toks xs ys hal, ← n1, ← n2] at hq
        rw [oneLt'_eq]
        simp only [if_true]
        refine wpAny_bind (wpAny_cRoomFor (SeqAt.room_here hu) ?_)
        refine wpAny_bind (wpAny_callSpecialIfBound?_slot (T := "tuple") ⟨_, h1, h2⟩ PySem.F.slot_tuple_lt (call_tuple_lt (e := SeqAt.pairEq xs ys) (r := fun j => PySem.W.dataLt (xs.getD j .none) (ys.getD j .none)) ⟨_, h1, h2, _, h3⟩ ⟨_, k1, k2, _, k3⟩ (fun j j1 j2 => ?_) (fun j j1 j2 hj => ?_) ?_))
        · have := PySem.W.eqAt_alikeAll xs ys A.in1 s vs.toList vs'.toList _ _ h4 k4 hal (SeqAt.room_in hu) j (by simpa using j1) (by simpa using j2)
          simpa using this
        · have := PySem.W.rcLt_alikeAll xs ys A.in1 s vs.toList vs'.toList _ _ h4 k4 hal (SeqAt.room_in hu) j (by simpa using j1) (by simpa using j2) hj
          simpa using this
        · exact wpAny_truthy_bool hq
/-- all are tuples, with the first items that they have *--/
def TupFs (h : Heap) : List Value → List (Option Value) → Prop
  | [], [] => True
  | v :: vs, f :: fs => (∃ a o xs n, v = .ref a ∧ h.get? a = some o ∧ o.cls = .type "tuple" ∧ o.data = .seq xs n ∧ xs[0]? = f) ∧ TupFs h vs fs
  | _, _ => False
theorem firsts_any : ∀ (vs : List Value) (fs : List (Option Value)) {Q : List (Option Value) → Shared → Prop}, TupFs s.heap vs fs → Q fs s → wpAny (model prog w) A (vs.mapM firstOfTuple') Q E s
  | [], [], _, _, h => by rw [List.mapM_nil]; exact wpAny_pure h
  | [], _ :: _, _, t, _ => t.elim
  | _ :: _, [], _, t, _ => t.elim
  | v :: vs, f :: fs, Q, t, h => by
    obtain ⟨⟨a, o, xs, n, rfl, ho, hc, hd, hf⟩, t⟩ := t
    rw [List.mapM_cons]
    refine wpAny_bind ?_
    rw [PySem.W.kas_first_eq]
    refine wpAny_bind (PySem.W.Looks.here (show PySem.W.Looks (model prog w) s.heap (typeOf (.ref a)) o.cls from (PySem.W.Looks.ld ho).andThen .now) ?_)
    rw [hc, if_neg (by first | decide | simp)]
    refine wpAny_bind (listItems_at ho hd (wpAny_pure ?_))
    rw [hf]
    exact wpAny_bind (firsts_any vs fs (Q := fun bs s' => wpAny (model prog w) A (pure (f :: bs)) Q E s') t (wpAny_pure h))
theorem tupFs_of : ∀ {vs : List Value} {ds : List PyData}, PySem.W.EachIs (fun v d => ∃ as, Reads s.heap v d as) vs ds → (∀ d, d ∈ ds → ∃ xs, d = .tuple xs) → ∃ fs, TupFs s.heap vs fs ∧ fs.length = vs.length ∧ ((fs.all fun x => x.isSome) = true → ∀ d, d ∈ ds → ∃ x r, d = .tuple (x :: r))
  | _, _, .nil, _ => ⟨[], trivial, rfl, fun _ d hd => nomatch hd⟩
  | _, _, .cons (b := d) ⟨as, r⟩ t, ht => by
    obtain ⟨fs, h1, h2, h3⟩ := tupFs_of t fun d hd => ht d (List.mem_cons_of_mem _ hd)
    obtain ⟨xs, rfl⟩ := ht d (List.mem_cons_self ..)
    cases r with
    | @tuple a o xs n _ _ ho hc hd hr =>
      refine ⟨xs[0]? :: fs, ⟨⟨a, o, xs, n, rfl, ho, hc, hd, rfl⟩, h1⟩, by rw [List.length_cons, List.length_cons, h2], fun hall d hm => ?_⟩
      rw [List.all_cons, Bool.and_eq_true] at hall
      rcases List.mem_cons.mp hm with z | z
      · subst z
        rename_i ds'
        cases ds' with
        | cons x r => exact ⟨x, r, rfl⟩
        | nil =>
          have hl : xs.toList = [] := by
            cases q : xs.toList with
            | nil => rfl
            | cons v vs =>
              rw [q] at hr
              cases hr
          have hx : xs[0]? = none := by rw [← Array.getElem?_toList, hl]; rfl
          rw [hx] at hall
          exact absurd hall.1 (by simp)
      · exact h3 hall.2 d z
theorem sortsAt_tuples {vs : List Value} {ds : List PyData} (e : PySem.W.EachIs (fun v d => ∃ as, Reads s.heap v d as) vs ds) (hal : PySem.W.AllAlike ds) (ht : ∀ d, d ∈ ds → ∃ xs, d = .tuple xs) (hu : ∀ d, d ∈ ds → A.units + d.depth < cLine) : PySem.W.SortsAt prog w A s (PySem.W.dataKind s.heap ds) vs := by
  by_cases hne : ∀ d, d ∈ ds → ∃ x r, d = .tuple (x :: r)
  · exact PySem.W.SortsAt.data e hal (.inl hne) hu
  have room : ∀ {d d' : PyData}, d ∈ ds → A.units + min d.depth d'.depth < cLine := fun {d d'} hd => Nat.lt_of_le_of_lt (Nat.add_le_add_left (Nat.min_le_left _ _) _) (hu d hd)
  have keys : ∀ v, v ∈ vs → ∃ a, (PySem.W.dataKind s.heap ds).keyOf v = some a := fun v hv => by
    obtain ⟨d, hd, as, r⟩ := e.left v hv
    exact ⟨_, PySem.W.dataKind_some hal hd r⟩
  have lt : ∀ (kd : SortKind) (f : Bool), (∀ x y, keyLt' kd x y = oneLt' f x y) → PyProof.Rows.H.LtAt prog w A s (PySem.W.dataKind s.heap ds) kd := fun kd f hk => by
    intro E x y a b Q ha hb hq
    obtain ⟨d, as, hd, ra, rfl⟩ := PySem.W.dataKind_inv ha
    obtain ⟨d', as', hd', rb, rfl⟩ := PySem.W.dataKind_inv hb
    have hr := room (d' := d') hd
    have hdd := hal d hd d' hd'
    obtain ⟨x1, rfl⟩ := ht d hd
    obtain ⟨x2, rfl⟩ := ht d' hd'
    rw [hk]
    exact oneLt_tuples ra rb hdd hr hq
  obtain ⟨fs, f1, f2, f3⟩ := tupFs_of e ht
  have hnot : (fs.all fun x => x.isSome) = false := by
    cases q : fs.all fun x => x.isSome with
    | false => rfl
    | true => exact absurd (f3 q) hne
  refine ⟨keys, ?_⟩
  by_cases g : (fs.toArray[0]?.bind id).isSome = true
  · refine ⟨general', lt _ false fun _ _ => rfl, fun h2 E Q hq => ?_⟩
    rw [kat_kind_eq, List.mapM_toArray, map_eq_pure_bind]
    refine wpAny_bind (wpAny_bind (firsts_any vs fs f1 (wpAny_pure ?_)))
    rw [if_neg (by simpa using hnot), if_pos g]
    exact wpAny_pure hq
  · refine ⟨oneType', lt _ true fun _ _ => rfl, fun h2 E Q hq => ?_⟩
    rw [kat_kind_eq, List.mapM_toArray, map_eq_pure_bind]
    refine wpAny_bind (wpAny_bind (firsts_any vs fs f1 (wpAny_pure ?_)))
    rw [if_neg (by simpa using hnot), if_neg g]
    rw [oneTypeOnly'_eq, List.mapM_toArray, map_eq_pure_bind]
    refine wpAny_bind (wpAny_bind (wpAny_bind (PySem.W.kas_mapM (r := Value.type "tuple") _ (fun v hv Q' hq' => ?_) (wpAny_pure ?_))))
    · obtain ⟨d, hd, as, r⟩ := e.left v hv
      obtain ⟨xs, rfl⟩ := ht d hd
      exact (PySem.W.looks_reads r).here hq'
    have hall : ((List.map (fun _ => Value.type "tuple") vs).toArray.all fun x => x == Value.type "tuple") = true := by
      simp only [List.all_toArray, List.all_map, List.all_eq_true]
      intro _ _
      exact beq_self_eq_true _
    have h0 : (List.map (fun _ => Value.type "tuple") vs).toArray[0]? = some (Value.type "tuple") := by
      cases vs with
      | nil => simp at h2
      | cons v vs => simp
    rw [h0]
    simp only [hall, if_true]
    exact wpAny_pure (wpAny_pure hq)
end
def rSortedD (K : PySem.W.Frag) : List V → Hp → VK → Prop := fun vs H Q => ∃ (a : Addr) (bs : List (V × PyData)), vs = [V.ref a] ∧ SqL K H a (bs.map Prod.fst) ∧ (∀ b ∈ bs, Dp K H b.1 b.2) ∧ PySem.W.AllAlike (bs.map Prod.snd) ∧ (∀ b ∈ bs, ∃ xs, b.2 = .tuple xs) ∧ (∀ b ∈ bs, b.2.depth ≤ 60) ∧
  ∀ p, H p = none → Q (.ref p) (upd H p (.lst ((bs.mergeSort (PySem.W.dataLe false Prod.snd)).map Prod.fst)))
theorem eachV_of : ∀ {bs : List (V × PyData)} {its : List Value}, Vals (bs.map Prod.fst) its → PySem.W.EachIs (fun v (p : V × PyData) => L2.RelV p.1 v) its bs
  | [], _, .nil => .nil
  | _ :: _, _, .cons r t => .cons r (eachV_of t)
theorem eachV_to : ∀ {bs : List (V × PyData)} {its : List Value}, PySem.W.EachIs (fun v (p : V × PyData) => L2.RelV p.1 v) its bs → Vals (bs.map Prod.fst) its
  | _, _, .nil => .nil
  | _, _, .cons r t => .cons r (eachV_to t)
section
variable {X : Cx}
theorem cr_sortedD (hu : X.A.units + 64 < cLine) : CallR X (.builtin "sorted") (rSortedD X.K) := by
  intro pins s σ H vs us Q I r h
  obtain ⟨a, bs, rfl, hs, hd, hal, ht, hdp, q⟩ := h
  obtain ⟨its, rv, hl, hz⟩ := I.list hs
  rw [Vals.ref1 r]
  have hzl : its.length ≤ sizeLine := by rw [← rv.length]; exact hz
  have e := eachV_of rv
  have er : PySem.W.EachIs (fun v (b : V × PyData) => ∃ as, Reads s.heap v b.2 as) its bs := (PySem.W.each_mem e).mono fun v b ⟨r1, hb⟩ => Dp.reads I b.2 b.1 v (hd b hb) r1
  have er' : PySem.W.EachIs (fun v (b : V × PyData) => ∃ as, Reads (PySem.W.sortingHeap (PySem.W.copyHeap s.heap its) (s.heap.objs.size + 1) its) v b.2 as) its bs := er.mono fun _ _ ⟨as, r⟩ => ⟨as, PyProof.Rows.Reads.keeps (fun _ _ => PySem.W.sorting_copy_old) r⟩
  refine PySem.W.sorted_vals hl.isList (sortsAt_tuples (s := { s with heap := PySem.W.sortingHeap (PySem.W.copyHeap s.heap its) (s.heap.objs.size + 1) its }) (PySem.W.each_map (R := fun v d => ∃ as, Reads (PySem.W.sortingHeap (PySem.W.copyHeap s.heap its) (s.heap.objs.size + 1) its) v d as) Prod.snd er') hal (fun d hd => ?_) (fun d hd => ?_)) hzl ?_
  · obtain ⟨b, hb, rfl⟩ := List.mem_map.mp hd
    exact ht b hb
  · obtain ⟨b, hb, rfl⟩ := List.mem_map.mp hd
    have := hdp b hb
    show X.A.units + 1 + 1 + b.2.depth < cLine
    omega
  have out := PySem.W.sortVals_data false e er' hal
  have rv2 := eachV_to out
  obtain ⟨ep, he'⟩ := PyProof.Rows.sortedAll_at s.heap its (PySem.W.sortVals (PySem.W.dataKind (PySem.W.sortingHeap (PySem.W.copyHeap s.heap its) (s.heap.objs.size + 1) its) (bs.map Prod.snd)) false its its).toArray
  refine ⟨.ref _, upd H (s.heap.objs.size + 1) (.lst ((bs.mergeSort (PySem.W.dataLe false Prod.snd)).map Prod.fst)), I.laid (t' := s.toks) (fun _ _ => PyProof.Rows.sortedAll_old) (Nat.le_succ _) ⟨?_, _, ep, rv2, he'⟩, rfl, q _ (I.hok.fresh (Nat.le_succ _))⟩
  rw [List.length_map, (List.mergeSort_perm _ _).length_eq]
  rw [List.length_map] at hz
  exact hz
/-- tuples of whole numbers, of any length *--/
def rSortedTI (K : PySem.W.Frag) : List V → Hp → VK → Prop := fun vs H Q => ∃ (a : Addr) (bs : List (V × List Int)), vs = [V.ref a] ∧ SqL K H a (bs.map Prod.fst) ∧ (∀ b ∈ bs, ∃ t, b.1 = .ref t ∧ SqT K H t (b.2.map V.int)) ∧
  ∀ p, H p = none → Q (.ref p) (upd H p (.lst ((bs.mergeSort fun x y => decide (x.2 ≤ y.2)).map Prod.fst)))
theorem dataLe_tups {β : Type} (x : β → List Int) : PySem.W.dataLe false (fun b => .tuple ((x b).map .int)) = fun p q => decide (x p ≤ x q) := by
  funext p q
  show (!PySem.W.dataLt (.tuple ((x q).map .int)) (.tuple ((x p).map .int))) = _
  rw [PySem.W.dataLt_tuple]
  show (!PySem.W.rowLt ((x q).map .int) ((x p).map .int)) = _
  rw [PySem.W.dataLt_ints]
  by_cases h : x q < x p
  · have h' : ¬ x p ≤ x q := fun r => List.not_lt.mpr r h
    simp [h, h']
  · have h' : x p ≤ x q := List.not_lt.mp h
    simp [h, h']
theorem alike_ints : ∀ xs ys : List Int, PySem.W.alikeAll (xs.map .int) (ys.map .int) = true
  | [], _ => by rw [List.map_nil, PySem.W.alikeAll]
  | _ :: _, [] => by rw [List.map_cons, List.map_nil, PySem.W.alikeAll]
  | x :: xs, y :: ys => by rw [List.map_cons, List.map_cons, PySem.W.alikeAll, alike_ints xs ys]; rfl
theorem dpAll_ints {K : PySem.W.Frag} {H : Hp} : ∀ ms : List Int, DpAll K H (ms.map V.int) (ms.map PyData.int)
  | [] => .nil
  | m :: ms => .cons (.int m) (dpAll_ints ms)
theorem depthAll_ints : ∀ ms : List Int, PyData.depthAll (ms.map PyData.int) = 0
  | [] => by simp [PyData.depthAll]
  | m :: ms => by simp [PyData.depthAll, PyData.depth, depthAll_ints ms]
theorem cr_sortedTI (hu : X.A.units + 64 < cLine) : CallR X (.builtin "sorted") (rSortedTI X.K) := by
  intro pins s σ H vs us Q I r h
  obtain ⟨a, bs, rfl, hs, ht, q⟩ := h
  refine cr_sortedD hu pins s σ H _ us Q I r ⟨a, bs.map fun b => (b.1, .tuple (b.2.map .int)), rfl, ?_, ?_, ?_, ?_, ?_, fun p hp => ?_⟩
  · rw [List.map_map]
    exact hs
  · intro b hb
    obtain ⟨c, hc, rfl⟩ := List.mem_map.mp hb
    obtain ⟨t, e, h⟩ := ht c hc
    rw [e]
    exact .tup h (dpAll_ints _)
  · intro x hx y hy
    rw [List.map_map] at hx hy
    obtain ⟨b, _, rfl⟩ := List.mem_map.mp hx
    obtain ⟨c, _, rfl⟩ := List.mem_map.mp hy
    show PySem.W.alike (.tuple _) (.tuple _) = true
    rw [PySem.W.alike]
    exact alike_ints _ _
  · intro b hb
    obtain ⟨c, hc, rfl⟩ := List.mem_map.mp hb
    exact ⟨_, rfl⟩
  · intro b hb
    obtain ⟨c, hc, rfl⟩ := List.mem_map.mp hb
    show (PyData.tuple _).depth ≤ 60
    rw [PyData.depth, depthAll_ints]
    omega
  · have e : (bs.map fun b => ((b.1, .tuple (b.2.map .int)) : V × PyData)).mergeSort (PySem.W.dataLe false Prod.snd) = (bs.mergeSort fun x y => decide (x.2 ≤ y.2)).map fun b => ((b.1, .tuple (b.2.map .int)) : V × PyData) := by
      symm
      refine List.map_mergeSort fun x _ y _ => ?_
      have z := congrFun (congrFun (dataLe_tups (β := V × List Int) Prod.snd) x) y
      exact z.symm
    rw [e, List.map_map]
    exact q p hp
/-- x in c, x not in c: data in a list or a tuple of data -/
def rInE (K : PySem.W.Frag) (neg : Bool) : R2 := fun x y H Q => ∃ d ds, Dp K H x d ∧ (Dp K H y (.list ds) ∨ Dp K H y (.tuple ds)) ∧ d.canLay0 = true ∧ PyData.canLayAll0 ds = true ∧ d.depth ≤ 60 ∧ Q (.bl (if neg then !ds.any fun z => PyData.eqv z d else ds.any fun z => PyData.eqv z d)) H
theorem op_inE (hu : X.A.units + 64 < cLine) : OpR X (compareOp .In) (rInE X.K false) := by
  intro pins s σ H x y v u Q I rx ry h
  obtain ⟨d, ds, hd, he, sd, se, dd, q⟩ := h
  obtain ⟨as, r1⟩ := Dp.reads I d x v hd rx
  have hroom : X.A.units + 1 + min (PyData.depthAll ds) d.depth < cLine := by omega
  rcases he with he | he
  · obtain ⟨bs, r2⟩ := Dp.reads I (.list ds) y u he ry
    exact SeqAt.in_list_reads r2 r1 se sd hroom ⟨.bl _, H, I, rfl, q⟩
  · obtain ⟨bs, r2⟩ := Dp.reads I (.tuple ds) y u he ry
    exact SeqAt.in_tuple_reads r2 r1 se sd hroom ⟨.bl _, H, I, rfl, q⟩
theorem op_notInE (hu : X.A.units + 64 < cLine) : OpR X (compareOp .NotIn) (rInE X.K true) := by
  intro pins s σ H x y v u Q I rx ry h
  obtain ⟨d, ds, hd, he, sd, se, dd, q⟩ := h
  obtain ⟨as, r1⟩ := Dp.reads I d x v hd rx
  have hroom : X.A.units + 1 + min (PyData.depthAll ds) d.depth < cLine := by omega
  rcases he with he | he
  · obtain ⟨bs, r2⟩ := Dp.reads I (.list ds) y u he ry
    exact SeqAt.notIn_list_reads r2 r1 se sd hroom ⟨.bl _, H, I, rfl, q⟩
  · obtain ⟨bs, r2⟩ := Dp.reads I (.tuple ds) y u he ry
    exact SeqAt.notIn_tuple_reads r2 r1 se sd hroom ⟨.bl _, H, I, rfl, q⟩
end
end Own

namespace My
open PySem PySem.Spec PyProof.Rows L2 Own
def top (i : Nat) : Stmt := PySem.Challenge.pw_onescale_k58_whole_rows_of_plain_shapes.main.body.getD i (.Pass ⟨0, 0, 0, 0⟩)
abbrev s__wall : Stmt := top 0
abbrev n__wall : List Str := ["k"]
abbrev p__wall : List Str := ["k"]
theorem sc__wall : FnScope n__wall p__wall (defScope s__wall) := ⟨rfl, rfl, rfl, by decide +kernel, rfl, by decide +kernel, by decide +kernel⟩
abbrev s_is_integer : Stmt := top 5
abbrev n_is_integer : List Str := ["value"]
abbrev p_is_integer : List Str := ["value"]
theorem sc_is_integer : FnScope n_is_integer p_is_integer (defScope s_is_integer) := ⟨rfl, rfl, rfl, by decide +kernel, rfl, by decide +kernel, by decide +kernel⟩
abbrev s_plain_by : Stmt := top 7
abbrev n_plain_by : List Str := ["steps", "found", "bound", "many", "is_one_of", "quotient"]
abbrev p_plain_by : List Str := ["steps"]
theorem sc_plain_by : FnScope n_plain_by p_plain_by (defScope s_plain_by) := ⟨rfl, rfl, rfl, by decide +kernel, rfl, by decide +kernel, by decide +kernel⟩
abbrev s_plain_count : Stmt := top 9
abbrev n_plain_count : List Str := ["n"]
abbrev p_plain_count : List Str := ["n"]
theorem sc_plain_count : FnScope n_plain_count p_plain_count (defScope s_plain_count) := ⟨rfl, rfl, rfl, by decide +kernel, rfl, by decide +kernel, by decide +kernel⟩
abbrev s_plain_at : Stmt := top 10
abbrev n_plain_at : List Str := ["n", "value", "runs", "place", "is_one_of"]
abbrev p_plain_at : List Str := ["n", "value"]
theorem sc_plain_at : FnScope n_plain_at p_plain_at (defScope s_plain_at) := ⟨rfl, rfl, rfl, by decide +kernel, rfl, by decide +kernel, by decide +kernel⟩
abbrev s_plain_number : Stmt := top 11
abbrev n_plain_number : List Str := ["shape", "number", "bound", "many", "_"]
abbrev p_plain_number : List Str := ["shape"]
theorem sc_plain_number : FnScope n_plain_number p_plain_number (defScope s_plain_number) := ⟨rfl, rfl, rfl, by decide +kernel, rfl, by decide +kernel, by decide +kernel⟩
abbrev s__law_urn : Stmt := top 13
abbrev n__law_urn : List Str := ["_law_script", "_law_urn_here", "_law_cell", "_law_own"]
abbrev p__law_urn : List Str := ["_law_script"]
theorem sc__law_urn : FnScope n__law_urn p__law_urn (defScope s__law_urn) := ⟨rfl, rfl, rfl, by decide +kernel, rfl, by decide +kernel, by decide +kernel⟩
abbrev s__law_take : Stmt := top 14
abbrev n__law_take : List Str := ["_law_urn_here", "_law_many", "_law_whole", "_law_state"]
abbrev p__law_take : List Str := ["_law_urn_here", "_law_many"]
theorem sc__law_take : FnScope n__law_take p__law_take (defScope s__law_take) := ⟨rfl, rfl, rfl, by decide +kernel, rfl, by decide +kernel, by decide +kernel⟩
abbrev s__law_pick : Stmt := top 15
abbrev n__law_pick : List Str := ["_law_urn_here", "_law_some"]
abbrev p__law_pick : List Str := ["_law_urn_here", "_law_some"]
theorem sc__law_pick : FnScope n__law_pick p__law_pick (defScope s__law_pick) := ⟨rfl, rfl, rfl, by decide +kernel, rfl, by decide +kernel, by decide +kernel⟩
abbrev s__law_inward : Stmt := top 16
abbrev n__law_inward : List Str := ["_law_shape", "_law_k", "_law_s", "_law_a", "_law_b", "_law_weights", "_law_v"]
abbrev p__law_inward : List Str := ["_law_shape"]
theorem sc__law_inward : FnScope n__law_inward p__law_inward (defScope s__law_inward) := ⟨rfl, rfl, rfl, by decide +kernel, rfl, by decide +kernel, by decide +kernel⟩
abbrev s__law_signed : Stmt := top 17
abbrev n__law_signed : List Str := ["_law_signs_here", "_law_runs", "_law_sign", "_law_found", "_law_many"]
abbrev p__law_signed : List Str := ["_law_signs_here"]
theorem sc__law_signed : FnScope n__law_signed p__law_signed (defScope s__law_signed) := ⟨rfl, rfl, rfl, by decide +kernel, rfl, by decide +kernel, by decide +kernel⟩
abbrev s__law_signs : Stmt := top 18
abbrev n__law_signs : List Str := ["_law_number", "_law_many", "_law_found", "_law_rest", "_law_turn"]
abbrev p__law_signs : List Str := ["_law_number", "_law_many"]
theorem sc__law_signs : FnScope n__law_signs p__law_signs (defScope s__law_signs) := ⟨rfl, rfl, rfl, by decide +kernel, rfl, by decide +kernel, by decide +kernel⟩
abbrev s__law_word : Stmt := top 19
abbrev n__law_word : List Str := ["_law_n", "_law_value"]
abbrev p__law_word : List Str := ["_law_n", "_law_value"]
theorem sc__law_word : FnScope n__law_word p__law_word (defScope s__law_word) := ⟨rfl, rfl, rfl, by decide +kernel, rfl, by decide +kernel, by decide +kernel⟩
abbrev s__law_power : Stmt := top 20
abbrev n__law_power : List Str := ["_law_many", "_law_found", "_law_turn"]
abbrev p__law_power : List Str := ["_law_many"]
theorem sc__law_power : FnScope n__law_power p__law_power (defScope s__law_power) := ⟨rfl, rfl, rfl, by decide +kernel, rfl, by decide +kernel, by decide +kernel⟩
abbrev s__law_is_near : Stmt := top 21
abbrev n__law_is_near : List Str := ["_law_n", "_law_number", "_law_some", "_law_pairs", "_law_own", "_law_shape", "_law_turned", "_law_sign"]
abbrev p__law_is_near : List Str := ["_law_n", "_law_number"]
theorem sc__law_is_near : FnScope n__law_is_near p__law_is_near (defScope s__law_is_near) := ⟨rfl, rfl, rfl, by decide +kernel, rfl, by decide +kernel, by decide +kernel⟩
abbrev s_law : Stmt := top 22
abbrev n_law : List Str := ["_law_script", "_law_urn_here", "_law_n", "_law_most", "_law_ahead", "_law_number", "_law_shape", "_law_a", "_law_b", "_law_turn", "_law_odd", "_law_value"]
abbrev p_law : List Str := ["_law_script"]
theorem sc_law : FnScope n_law p_law (defScope s_law) := ⟨rfl, rfl, rfl, by decide +kernel, rfl, by decide +kernel, by decide +kernel⟩
structure Cd (K : PySem.W.Frag) (mg : Str → Option Value) where
  a__wall : Addr
  d__wall : FuncData
  F__wall : Fun K "_wall" "_wall" s__wall a__wall d__wall
  m__wall : mg "_wall" = some (.ref a__wall)
  b__wall : Binds K d__wall p__wall []
  a_is_integer : Addr
  d_is_integer : FuncData
  F_is_integer : Fun K "is_integer" "is_integer" s_is_integer a_is_integer d_is_integer
  m_is_integer : mg "is_integer" = some (.ref a_is_integer)
  b_is_integer : Binds K d_is_integer p_is_integer []
  a_plain_by : Addr
  d_plain_by : FuncData
  F_plain_by : Fun K "plain_by" "plain_by" s_plain_by a_plain_by d_plain_by
  m_plain_by : mg "plain_by" = some (.ref a_plain_by)
  b_plain_by : Binds K d_plain_by p_plain_by []
  a_plain_count : Addr
  d_plain_count : FuncData
  F_plain_count : Fun K "plain_count" "plain_count" s_plain_count a_plain_count d_plain_count
  m_plain_count : mg "plain_count" = some (.ref a_plain_count)
  b_plain_count : Binds K d_plain_count p_plain_count []
  a_plain_at : Addr
  d_plain_at : FuncData
  F_plain_at : Fun K "plain_at" "plain_at" s_plain_at a_plain_at d_plain_at
  m_plain_at : mg "plain_at" = some (.ref a_plain_at)
  b_plain_at : Binds K d_plain_at p_plain_at []
  a_plain_number : Addr
  d_plain_number : FuncData
  F_plain_number : Fun K "plain_number" "plain_number" s_plain_number a_plain_number d_plain_number
  m_plain_number : mg "plain_number" = some (.ref a_plain_number)
  b_plain_number : Binds K d_plain_number p_plain_number []
  a__law_urn : Addr
  d__law_urn : FuncData
  F__law_urn : Fun K "_law_urn" "_law_urn" s__law_urn a__law_urn d__law_urn
  m__law_urn : mg "_law_urn" = some (.ref a__law_urn)
  b__law_urn : Binds K d__law_urn p__law_urn []
  a__law_take : Addr
  d__law_take : FuncData
  F__law_take : Fun K "_law_take" "_law_take" s__law_take a__law_take d__law_take
  m__law_take : mg "_law_take" = some (.ref a__law_take)
  b__law_take : Binds K d__law_take p__law_take []
  a__law_pick : Addr
  d__law_pick : FuncData
  F__law_pick : Fun K "_law_pick" "_law_pick" s__law_pick a__law_pick d__law_pick
  m__law_pick : mg "_law_pick" = some (.ref a__law_pick)
  b__law_pick : Binds K d__law_pick p__law_pick []
  a__law_inward : Addr
  d__law_inward : FuncData
  F__law_inward : Fun K "_law_inward" "_law_inward" s__law_inward a__law_inward d__law_inward
  m__law_inward : mg "_law_inward" = some (.ref a__law_inward)
  b__law_inward : Binds K d__law_inward p__law_inward []
  a__law_signed : Addr
  d__law_signed : FuncData
  F__law_signed : Fun K "_law_signed" "_law_signed" s__law_signed a__law_signed d__law_signed
  m__law_signed : mg "_law_signed" = some (.ref a__law_signed)
  b__law_signed : Binds K d__law_signed p__law_signed []
  a__law_signs : Addr
  d__law_signs : FuncData
  F__law_signs : Fun K "_law_signs" "_law_signs" s__law_signs a__law_signs d__law_signs
  m__law_signs : mg "_law_signs" = some (.ref a__law_signs)
  b__law_signs : Binds K d__law_signs p__law_signs []
  a__law_word : Addr
  d__law_word : FuncData
  F__law_word : Fun K "_law_word" "_law_word" s__law_word a__law_word d__law_word
  m__law_word : mg "_law_word" = some (.ref a__law_word)
  b__law_word : Binds K d__law_word p__law_word []
  a__law_power : Addr
  d__law_power : FuncData
  F__law_power : Fun K "_law_power" "_law_power" s__law_power a__law_power d__law_power
  m__law_power : mg "_law_power" = some (.ref a__law_power)
  b__law_power : Binds K d__law_power p__law_power []
  a__law_is_near : Addr
  d__law_is_near : FuncData
  F__law_is_near : Fun K "_law_is_near" "_law_is_near" s__law_is_near a__law_is_near d__law_is_near
  m__law_is_near : mg "_law_is_near" = some (.ref a__law_is_near)
  b__law_is_near : Binds K d__law_is_near p__law_is_near []
  a_law : Addr
  d_law : FuncData
  F_law : Fun K "law" "law" s_law a_law d_law
  m_law : mg "law" = some (.ref a_law)
  b_law : Binds K d_law p_law []
  bz : ∀ (s : Shared) (u : Value), BindsTo s d_law ⟨[u], []⟩ [("_law_script", u)]
  kw_plain_number_shape : KwBinds d_plain_number p_plain_number ["shape"] [0]
  kw_plain_count_n : KwBinds d_plain_count p_plain_count ["n"] [0]
  kw_plain_at_value_n : KwBinds d_plain_at p_plain_at ["value", "n"] [1, 0]
  z_abs : mg "abs" = none
  z_bool : mg "bool" = none
  z_int : mg "int" = none
  z_isinstance : mg "isinstance" = none
  z_len : mg "len" = none
  z_max : mg "max" = none
  z_range : mg "range" = none
  z_repr : mg "repr" = none
  z_tuple : mg "tuple" = none
  c_TripError : Addr
  m_TripError : mg "TripError" = some (.ref c_TripError)
  k_TripError : PySem.W.keepIn K (.ref c_TripError) = true
  xb_TripError : PySem.W.subIn K (.ref c_TripError) (.type "BaseException") = some true
  xt_TripError : PySem.W.typeIn K (.ref c_TripError) = some (.type "type")
  c_Unfit : Addr
  m_Unfit : mg "Unfit" = some (.ref c_Unfit)
  k_Unfit : PySem.W.keepIn K (.ref c_Unfit) = true
  x_Unfit : PySem.W.excIn K c_Unfit [.type "ValueError", .type "Exception", .type "BaseException", .type "object"] "ValueError.__new__" = true
  xb_Unfit : PySem.W.subIn K (.ref c_Unfit) (.type "BaseException") = some true
  xt_Unfit : PySem.W.typeIn K (.ref c_Unfit) = some (.type "type")
  e_Unfit_Unfit : PySem.W.exmOne K (.ref c_Unfit) (.ref c_Unfit) = some true
section
variable {P : Program} {w : World} {K : PySem.W.Frag} {mg : Str → Option Value} {base : Heap}
/-! ### shapes *--/
abbrev Shp := List (Nat × Nat)
def wgt (k s a b : Nat) : Nat := if k = 1 then a else if s < k then b else max a b
structure PW where
  a : Nat
  b : Nat
  ws : List Nat
def pwIn (k s : Nat) : PW := ⟨k, s + 1 - k, [1]⟩
def pwUp (k s : Nat) (p : PW) : PW := ⟨p.a + (k - 1) * wgt k s p.a p.b, p.b + (s + 1 - k) * wgt k s p.a p.b, wgt k s p.a p.b :: p.ws⟩
def pw : Shp → PW
  | [] => ⟨0, 0, []⟩
  | [(k, s)] => pwIn k s
  | (k, s) :: y :: r => pwUp k s (pw (y :: r))
def prodS : Shp → Nat
  | [] => 1
  | (_, s) :: r => (s + 1) * prodS r
def sizeS : Shp → Nat
  | [] => 0
  | (_, s) :: r => s + sizeS r
def LevOk (x : Nat × Nat) : Prop := 1 ≤ x.1 ∧ x.1 ≤ x.2 + 1 ∧ 1 ≤ x.2
/-- a shape: its levels, from without; the innermost one stands by itself *--/
structure Ok (L : Shp) : Prop where
  lev : ∀ x ∈ L, LevOk x
  last : ∃ A x, L = A ++ [x] ∧ x.1 ≤ x.2
theorem Ok.ne {L : Shp} (h : Ok L) : L ≠ [] := by
  obtain ⟨A, x, rfl, _⟩ := h.last
  simp
theorem Ok.one {k s : Nat} (h1 : 1 ≤ k) (h2 : k ≤ s) : Ok [(k, s)] := ⟨fun x hx => by
  rw [List.mem_singleton.mp hx]
  exact ⟨h1, by show k ≤ s + 1; omega, by show 1 ≤ s; omega⟩, [], (k, s), rfl, h2⟩
theorem Ok.up {L : Shp} {k s : Nat} (h : Ok L) (h1 : 1 ≤ k) (h2 : k ≤ s + 1) (h3 : 1 ≤ s) : Ok ((k, s) :: L) := by
  obtain ⟨A, x, e, hx⟩ := h.last
  refine ⟨fun y hy => ?_, (k, s) :: A, x, by rw [e]; rfl, hx⟩
  rcases List.mem_cons.mp hy with z | z
  · rw [z]
    exact ⟨h1, h2, h3⟩
  · exact h.lev y z
theorem Ok.tail {x y : Nat × Nat} {r : Shp} (h : Ok (x :: y :: r)) : Ok (y :: r) := by
  obtain ⟨A, z, e, hz⟩ := h.last
  refine ⟨fun w hw => h.lev w (List.mem_cons_of_mem _ hw), ?_⟩
  cases A with
  | nil => simp at e
  | cons u A =>
    rw [List.cons_append] at e
    exact ⟨A, z, (List.cons.inj e).2, hz⟩
theorem wgt_le {k s a b : Nat} : wgt k s a b ≤ max a b := by
  unfold wgt
  split
  · exact Nat.le_max_left _ _
  · split
    · exact Nat.le_max_right _ _
    · exact Nat.le_refl _
/-- a + b is no more than the product of what the levels hold, and one *--/
theorem pw_prod : ∀ {L : Shp}, Ok L → (pw L).a + (pw L).b ≤ prodS L ∧ ∀ w ∈ (pw L).ws, w ≤ prodS L
  | [], h => absurd rfl h.ne
  | [(k, s)], h => by
    obtain ⟨h1, h2, h3⟩ := h.lev _ List.mem_cons_self
    dsimp only at h1 h2 h3
    rw [pw, pwIn, prodS, prodS]
    dsimp only
    refine ⟨by omega, fun w hw => ?_⟩
    rw [List.mem_singleton.mp hw]
    omega
  | (k, s) :: y :: r, h => by
    obtain ⟨h1, h2, h3⟩ := h.lev _ List.mem_cons_self
    dsimp only at h1 h2 h3
    obtain ⟨ih1, ih2⟩ := pw_prod h.tail
    rw [pw, pwUp, prodS]
    dsimp only
    generalize pw (y :: r) = p at ih1 ih2
    generalize prodS (y :: r) = q at ih1 ih2
    have hw := wgt_le (k := k) (s := s) (a := p.a) (b := p.b)
    generalize wgt k s p.a p.b = v at hw
    have hv : v ≤ q := by omega
    have e1 : (k - 1) * v + (s + 1 - k) * v = s * v := by rw [← Nat.add_mul]; congr 1; omega
    have e2 : s * v ≤ s * q := Nat.mul_le_mul_left _ hv
    have e3 : (s + 1) * q = s * q + q := by rw [Nat.add_mul, Nat.one_mul]
    have hq : q ≤ (s + 1) * q := by omega
    refine ⟨by omega, fun w hw' => ?_⟩
    rcases List.mem_cons.mp hw' with z | z
    · omega
    · exact Nat.le_trans (ih2 w z) hq
/-! Fibonacci's numbers *--/
def fib : Nat → Nat
  | 0 => 0
  | 1 => 1
  | n + 2 => fib (n + 1) + fib n
theorem fib_step (n : Nat) : fib (n + 2) = fib (n + 1) + fib n := rfl
theorem fib_mono (n : Nat) : fib n ≤ fib (n + 1) ∨ n = 0 := by
  cases n with
  | zero => exact .inr rfl
  | succ n => exact .inl (by rw [fib_step]; omega)
theorem fib_up : ∀ m n : Nat, fib (n + 1) ≤ fib (n + 1 + m)
  | 0, n => Nat.le_refl _
  | m + 1, n => by
    refine Nat.le_trans (fib_up m n) ?_
    rw [show n + 1 + (m + 1) = (n + m) + 2 by omega, show n + 1 + m = n + m + 1 by omega, fib_step]
    omega
theorem fib_pos : ∀ n, 1 ≤ fib (n + 1)
  | 0 => Nat.le_refl _
  | n + 1 => by rw [fib_step]; have := fib_pos n; omega
/-- F(n + s + 2) >= F(n + 2) + s F(n + 1) *--/
theorem fib_go : ∀ s n : Nat, fib (n + 2) + s * fib (n + 1) ≤ fib (n + 2 + s)
  | 0, n => by rw [Nat.zero_mul]; exact Nat.le_refl _
  | s + 1, n => by
    have ih := fib_go s n
    have h2 := fib_up s n
    have e := fib_step (n + 1 + s)
    rw [show n + 1 + s + 1 = n + 2 + s by omega] at e
    rw [show n + 2 + (s + 1) = (n + 1 + s) + 2 by omega, e, Nat.add_mul, Nat.one_mul]
    omega
theorem fib_ge : ∀ s : Nat, s ≤ fib (s + 1)
  | 0 => Nat.zero_le _
  | 1 => Nat.le_refl _
  | 2 => Nat.le_refl _
  | s + 3 => by
    have h1 := fib_ge (s + 2)
    have h2 := fib_pos (s + 1)
    have e := fib_step (s + 2)
    rw [show s + 2 + 1 = s + 3 by omega] at e h1
    rw [show s + 1 + 1 = s + 2 by omega] at h2
    rw [show s + 3 + 1 = s + 2 + 2 by omega, e]
    omega
theorem pw_fib : ∀ {L : Shp}, Ok L → (pw L).a + (pw L).b ≤ fib (sizeS L + 2) ∧ (pw L).a ≤ fib (sizeS L + 1) ∧ (pw L).b ≤ fib (sizeS L + 1) ∧ 1 ≤ sizeS L ∧ ∀ w ∈ (pw L).ws, w ≤ fib (sizeS L)
  | [], h => absurd rfl h.ne
  | [(k, s)], h => by
    obtain ⟨h1, h2, h3⟩ := h.lev _ List.mem_cons_self
    dsimp only at h1 h2 h3
    obtain ⟨A, x, e, hx⟩ := h.last
    have hk : k ≤ s := by
      cases A with
      | nil =>
        rw [List.nil_append] at e
        cases e
        exact hx
      | cons u A => simp at e
    have g1 := fib_ge s
    have g2 := fib_ge (s + 1)
    rw [pw, pwIn, sizeS, sizeS, Nat.add_zero]
    dsimp only
    refine ⟨by rw [show s + 2 = s + 1 + 1 by omega]; omega, by omega, by omega, h3, fun w hw => ?_⟩
    rw [List.mem_singleton.mp hw]
    have := fib_pos (s - 1)
    rwa [show s - 1 + 1 = s by omega] at this
  | (k, s) :: y :: r, h => by
    obtain ⟨h1, h2, h3⟩ := h.lev _ List.mem_cons_self
    dsimp only at h1 h2 h3
    obtain ⟨i1, i2, i3, i4, i5⟩ := pw_fib h.tail
    rw [pw, pwUp, sizeS]
    dsimp only
    generalize pw (y :: r) = p at i1 i2 i3 i5
    generalize sizeS (y :: r) = n at i1 i2 i3 i4 i5
    have hw := wgt_le (k := k) (s := s) (a := p.a) (b := p.b)
    have hv : wgt k s p.a p.b ≤ fib (n + 1) := by omega
    have g1 := fib_go s n
    have g2 := fib_go (s - 1) n
    have g3 := fib_up s n
    have g4 := fib_up (s - 1) n
    have e0 : fib (n + 1) ≤ fib (n + 2) := by rw [fib_step]; omega
    rw [show n + 2 + (s - 1) = n + 1 + s by omega] at g2
    have hlast : ∀ m, m ≤ s → m * wgt k s p.a p.b ≤ s * fib (n + 1) := fun m hm => Nat.mul_le_mul hm hv
    have hsm : (s - 1) * fib (n + 1) + fib (n + 1) = s * fib (n + 1) := by
      rw [← Nat.succ_mul, show (s - 1).succ = s by omega]
    have hone : ∀ m, m ≤ s - 1 → m * wgt k s p.a p.b ≤ (s - 1) * fib (n + 1) := fun m hm => Nat.mul_le_mul hm hv
    have eab : (k - 1) * wgt k s p.a p.b + (s + 1 - k) * wgt k s p.a p.b = s * wgt k s p.a p.b := by rw [← Nat.add_mul]; congr 1; omega
    have es := hlast s (Nat.le_refl _)
    have hA : p.a + (k - 1) * wgt k s p.a p.b ≤ fib (n + 1 + s) ∧ p.b + (s + 1 - k) * wgt k s p.a p.b ≤ fib (n + 1 + s) := by
      by_cases c1 : k = 1
      · have ew : wgt k s p.a p.b = p.a := by rw [wgt, if_pos c1]
        have m1 : (s - 1) * p.a ≤ (s - 1) * fib (n + 1) := Nat.mul_le_mul_left _ i2
        have m2 : (s - 1) * p.a + p.a = s * p.a := by rw [← Nat.succ_mul, show (s - 1).succ = s by omega]
        rw [ew, c1, show s + 1 - 1 = s by omega, Nat.sub_self, Nat.zero_mul]
        omega
      · by_cases c2 : s < k
        · have ew : wgt k s p.a p.b = p.b := by rw [wgt, if_neg c1, if_pos c2]
          have m1 : (s - 1) * p.b ≤ (s - 1) * fib (n + 1) := Nat.mul_le_mul_left _ i3
          have m2 : (s - 1) * p.b + p.b = s * p.b := by rw [← Nat.succ_mul, show (s - 1).succ = s by omega]
          rw [ew, show k - 1 = s by omega, show s + 1 - k = 0 by omega, Nat.zero_mul]
          omega
        · have m1 := hone (k - 1) (by omega)
          have m2 := hone (s + 1 - k) (by omega)
          omega
    rw [show s + n + 2 = n + 2 + s by omega, show s + n + 1 = n + 1 + s by omega]
    refine ⟨by omega, hA.1, hA.2, by omega, fun w hw' => ?_⟩
    rcases List.mem_cons.mp hw' with z | z
    · rw [z, show s + n = n + 1 + (s - 1) by omega]
      omega
    · refine Nat.le_trans (i5 w z) ?_
      have := fib_up (s - 1 + 1) (n - 1)
      rwa [show n - 1 + 1 = n by omega, show n + (s - 1 + 1) = s + n by omega] at this

/-! ### shapes in the heap *--/
inductive Lvs (H : Hp) : List Addr → Shp → Prop
  | nil : Lvs H [] []
  | cons {q : Addr} {qs : List Addr} {x : Nat × Nat} {L : Shp} : H q = some (.tup [.int (x.1 : Int), .int (x.2 : Int)]) → Lvs H qs L → Lvs H (q :: qs) (x :: L)
theorem Lvs.len {H : Hp} : ∀ {qs : List Addr} {L : Shp}, Lvs H qs L → qs.length = L.length
  | _, _, .nil => rfl
  | _, _, .cons _ t => by rw [List.length_cons, List.length_cons, t.len]
theorem Lvs.mono {H H' : Hp} : ∀ {qs : List Addr} {L : Shp}, Lvs H qs L → (∀ a o, H a = some (.tup o) → H' a = some (.tup o)) → Lvs H' qs L
  | _, _, .nil, _ => .nil
  | _, _, .cons h t, k => .cons (k _ _ h) (t.mono k)
theorem Lvs.get {H : Hp} : ∀ {qs : List Addr} {L : Shp}, Lvs H qs L → ∀ {i : Nat} {q : Addr}, qs[i]? = some q → ∃ x, L[i]? = some x ∧ H q = some (.tup [.int (x.1 : Int), .int (x.2 : Int)])
  | _, _, .nil, i, q, h => by simp at h
  | _, _, .cons (x := x) h t, 0, q, e => by
    simp at e
    subst e
    exact ⟨x, rfl, h⟩
  | _, _, .cons h t, i + 1, q, e => by
    obtain ⟨x, a, b⟩ := t.get (i := i) (q := q) (by simpa using e)
    exact ⟨x, by simpa using a, b⟩
structure ShAt (H : Hp) (p : Addr) (L : Shp) : Prop where
  ex : ∃ qs : List Addr, H p = some (.tup (qs.map V.ref)) ∧ Lvs H qs L
theorem ShAt.mono {H H' : Hp} {p : Addr} {L : Shp} (h : ShAt H p L) (k : ∀ a o, H a = some (.tup o) → H' a = some (.tup o)) : ShAt H' p L := by
  obtain ⟨qs, h1, h2⟩ := h.ex
  exact ⟨qs, k _ _ h1, h2.mono k⟩
theorem ShAt.same {H H' : Hp} {p : Addr} {L : Shp} (h : ShAt H p L) (e : Same H H') : ShAt H' p L := h.mono fun a _ z => e a _ z
structure PwAt (H : Hp) (t : Addr) (p : PW) : Prop where
  ex : ∃ p1 p2 : Addr, H t = some (.tup [.ref p1, .ref p2]) ∧ H p1 = some (.tup [.int (p.a : Int), .int (p.b : Int)]) ∧ H p2 = some (.tup (nats p.ws))
theorem Lvs.split {H : Hp} {x : Nat × Nat} : ∀ {qs : List Addr} {A : Shp}, Lvs H qs (A ++ [x]) → ∃ qa q0, qs = qa ++ [q0] ∧ Lvs H qa A ∧ H q0 = some (.tup [.int (x.1 : Int), .int (x.2 : Int)])
  | _, [], .cons h .nil => ⟨[], _, rfl, .nil, h⟩
  | _, y :: A, .cons h t => by
    obtain ⟨qa, q0, e, a, b⟩ := t.split (A := A)
    exact ⟨_ :: qa, q0, by rw [e]; rfl, .cons h a, b⟩
theorem at_last {xs : List V} {z : V} : atI (xs ++ [z]) (-1) = some z := by
  unfold atI ixN
  rw [if_neg (by decide)]
  rw [List.length_append, List.length_singleton]
  rw [if_pos (by omega)]
  rw [show ((-1 : Int) + ((xs.length + 1 : Nat) : Int)).toNat = xs.length by omega]
  show (xs ++ [z])[xs.length]? = some z
  simp
theorem cut_m1 {xs : List V} {z : V} : cutV (xs ++ [z]) none (some (-1)) = xs := by
  unfold cutV HT.sIx
  dsimp only
  rw [if_pos (by decide), List.length_append, List.length_singleton, List.drop_zero, show ((-1 : Int) + ((xs.length + 1 : Nat) : Int)).toNat - 0 = xs.length by omega]
  simp
theorem ok_drop : ∀ {L : Shp}, Ok L → ∀ i, i < L.length → Ok (L.drop i)
  | [], h, _, _ => absurd rfl h.ne
  | _, h, 0, _ => by rw [List.drop_zero]; exact h
  | [x], h, i + 1, hi => by simp at hi
  | x :: y :: r, h, i + 1, hi => by
    rw [List.drop_succ_cons]
    exact ok_drop h.tail i (by simpa using hi)
theorem prod_pos : ∀ L : Shp, 1 ≤ prodS L
  | [] => Nat.le_refl _
  | (_, s) :: r => by
    rw [prodS]
    exact Nat.mul_pos (by omega) (prod_pos r)
theorem prod_drop : ∀ (L : Shp) (i : Nat), prodS (L.drop i) ≤ prodS L
  | [], i => by rw [List.drop_nil]; exact Nat.le_refl _
  | x :: r, 0 => by rw [List.drop_zero]; exact Nat.le_refl _
  | (k, s) :: r, i + 1 => by
    rw [List.drop_succ_cons, prodS]
    refine Nat.le_trans (prod_drop r i) ?_
    exact Nat.le_mul_of_pos_left _ (by omega)
theorem pw_cons {x : Nat × Nat} {L : Shp} (h : L ≠ []) : pw (x :: L) = pwUp x.1 x.2 (pw L) := by
  cases L with
  | nil => exact absurd rfl h
  | cons y r => rw [pw]
theorem lev_prod : ∀ (L : Shp) (y : Nat × Nat), y ∈ L → y.2 + 1 ≤ prodS L
  | [], y, h => nomatch h
  | (k, s) :: r, y, h => by
    have hp := prod_pos r
    rw [prodS]
    rcases List.mem_cons.mp h with e | e
    · rw [e]
      exact Nat.le_mul_of_pos_right _ hp
    · exact Nat.le_trans (lev_prod r y e) (Nat.le_mul_of_pos_left _ (by omega))
theorem pw_len : ∀ L : Shp, (pw L).ws.length = L.length
  | [] => rfl
  | [(k, s)] => rfl
  | (k, s) :: y :: r => by
    rw [pw, pwUp, List.length_cons, pw_len (y :: r)]
    rfl
theorem wgt_one {k s a b : Nat} (h : k = 1) : wgt k s a b = a := by rw [wgt, if_pos h]
theorem wgt_all {k s a b : Nat} (h1 : k ≠ 1) (h : s < k) : wgt k s a b = b := by rw [wgt, if_neg h1, if_pos h]
theorem wgt_mid {k s a b : Nat} (h1 : k ≠ 1) (h : ¬ s < k) : wgt k s a b = max a b := by rw [wgt, if_neg h1, if_neg h]
theorem nats_snoc {r : List Nat} {x : Nat} {v : Int} (h : v = (x : Int)) : nats r ++ [V.int v] = nats (r ++ [x]) := by
  rw [h, nats_app]
  rfl
theorem wgt_pos {k s a b : Nat} (ha : 1 ≤ a) (hb : 1 ≤ b) : 1 ≤ wgt k s a b := by
  unfold wgt
  split
  · exact ha
  · split
    · exact hb
    · omega
theorem pw_pos : ∀ {L : Shp}, Ok L → 1 ≤ (pw L).a ∧ 1 ≤ (pw L).b
  | [], h => absurd rfl h.ne
  | [(k, s)], h => by
    obtain ⟨h1, h2, h3⟩ := h.lev _ List.mem_cons_self
    dsimp only at h1 h2 h3
    obtain ⟨A, x, e, hx⟩ := h.last
    have hk : k ≤ s := by
      cases A with
      | nil =>
        rw [List.nil_append] at e
        cases e
        exact hx
      | cons u A => simp at e
    rw [pw, pwIn]
    dsimp only
    omega
  | (k, s) :: y :: r, h => by
    obtain ⟨i1, i2⟩ := pw_pos h.tail
    rw [pw, pwUp]
    dsimp only
    omega
theorem pw_up {x y : Nat × Nat} {r : Shp} (h : Ok (x :: y :: r)) : (pw (y :: r)).a + (pw (y :: r)).b ≤ (pw (x :: y :: r)).a + (pw (x :: y :: r)).b ∧ x.2 ≤ (pw (x :: y :: r)).a + (pw (x :: y :: r)).b := by
  obtain ⟨h1, h2, h3⟩ := h.lev x List.mem_cons_self
  obtain ⟨p1, p2⟩ := pw_pos h.tail
  obtain ⟨k, s⟩ := x
  dsimp only at h1 h2 h3 ⊢
  rw [pw, pwUp]
  dsimp only
  have hv := wgt_pos (k := k) (s := s) p1 p2
  generalize pw (y :: r) = p at p1 p2 hv ⊢
  generalize wgt k s p.a p.b = v at hv ⊢
  have e1 : (k - 1) * v + (s + 1 - k) * v = s * v := by rw [← Nat.add_mul]; congr 1; omega
  have e2 : s * 1 ≤ s * v := Nat.mul_le_mul_left _ hv
  omega
theorem pw_drop : ∀ {L : Shp}, Ok L → ∀ i, i < L.length → (pw (L.drop i)).a + (pw (L.drop i)).b ≤ (pw L).a + (pw L).b
  | [], h, _, _ => absurd rfl h.ne
  | _, h, 0, _ => by rw [List.drop_zero]; exact Nat.le_refl _
  | [x], h, i + 1, hi => by simp at hi
  | x :: y :: r, h, i + 1, hi => by
    rw [List.drop_succ_cons]
    exact Nat.le_trans (pw_drop h.tail i (by simpa using hi)) (pw_up h).1
theorem lev_pw : ∀ {L : Shp}, Ok L → ∀ y ∈ L, y.2 ≤ (pw L).a + (pw L).b
  | [], h, _, _ => absurd rfl h.ne
  | [(k, s)], h, y, hy => by
    rw [List.mem_singleton.mp hy, pw, pwIn]
    dsimp only
    omega
  | x :: z :: r, h, y, hy => by
    rcases List.mem_cons.mp hy with e | e
    · rw [e]
      exact (pw_up h).2
    · exact Nat.le_trans (lev_pw h.tail y e) (pw_up h).1
def spPw : Sp := fun vs H Q _ => ∃ (p : Addr) (L : Shp), vs = [.ref p] ∧ ShAt H p L ∧ Ok L ∧ (pw L).a + (pw L).b < 2 ^ 150 ∧ L.length ≤ 2000 ∧ ∀ (t : Addr) (H' : Hp), Same H H' → PwAt H' t (pw L) → Q (.ref t) H'

/-! ### the law's own weights *--/
theorem rep_flatV (n : Nat) (v : V) : (List.replicate n [v]).flatten = List.replicate n v := by
  induction n with
  | zero => rfl
  | succ n ih => rw [List.replicate_succ, List.flatten_cons, ih]; rfl
abbrev nA (k s : Nat) : Nat := (if decide ((k : Int) ≤ (s : Int)) = true then (1 : Int) else 0).toNat
abbrev nB (k : Nat) : Nat := (if decide ((2 : Int) ≤ (k : Int)) = true then (1 : Int) else 0).toNat
abbrev mxs (k s a b : Nat) : List Int := List.replicate (nA k s) (a : Int) ++ List.replicate (nB k) (b : Int)
theorem nA_y {k s : Nat} (h : k ≤ s) : nA k s = 1 := by unfold nA; rw [decide_eq_true (by omega)]; rfl
theorem nA_n {k s : Nat} (h : ¬ k ≤ s) : nA k s = 0 := by unfold nA; rw [decide_eq_false (by omega)]; rfl
theorem nB_y {k : Nat} (h : 2 ≤ k) : nB k = 1 := by unfold nB; rw [decide_eq_true (by omega)]; rfl
theorem nB_n {k : Nat} (h : ¬ 2 ≤ k) : nB k = 0 := by unfold nB; rw [decide_eq_false (by omega)]; rfl
theorem mxs_wgt {k s a b : Nat} (h1 : 1 ≤ k) (h2 : k ≤ s + 1) (h3 : 1 ≤ s) {m : Int} (hm : m ∈ mxs k s a b) (hall : ∀ y ∈ mxs k s a b, y ≤ m) : m = ((wgt k s a b : Nat) : Int) := by
  unfold mxs at hm hall
  by_cases c1 : k ≤ s
  · rw [nA_y c1] at hm hall
    by_cases c2 : 2 ≤ k
    · rw [nB_y c2] at hm hall
      rw [wgt_mid (by omega) (by omega)]
      have q1 := hall (a : Int) (by simp)
      have q2 := hall (b : Int) (by simp)
      simp at hm
      omega
    · rw [nB_n c2] at hm hall
      rw [wgt_one (by omega)]
      simpa using hm
  · rw [nA_n c1] at hm hall
    rw [nB_y (by omega)] at hm hall
    rw [wgt_all (by omega) (by omega)]
    simpa using hm
theorem mxs_len {k s a b : Nat} (h1 : 1 ≤ k) (h2 : k ≤ s + 1) (h3 : 1 ≤ s) : 0 < (mxs k s a b).length := by
  unfold mxs
  rw [List.length_append, List.length_replicate, List.length_replicate]
  by_cases c1 : k ≤ s
  · rw [nA_y c1]; omega
  · rw [nB_y (by omega)]; omega
theorem n_le1 (k s : Nat) : nA k s ≤ 1 ∧ nB k ≤ 1 := by
  refine ⟨?_, ?_⟩
  · by_cases c : k ≤ s
    · rw [nA_y c]; exact Nat.le_refl _
    · rw [nA_n c]; omega
  · by_cases c : 2 ≤ k
    · rw [nB_y c]; exact Nat.le_refl _
    · rw [nB_n c]; omega
theorem ok__law_inward (T : Cd K mg) : FnOk P w K mg base CX0 1 T.a__law_inward T.d__law_inward p__law_inward spPw := by
  have nd : (n__law_inward : List Str).Nodup := sc__law_inward.nd
  refine T.F__law_inward.ok sc__law_inward (fun vs H Q E h => ?_) (fun cdv A outer s H vs Q E hr h => ?_)
  · obtain ⟨p, L, rfl, _⟩ := h
    rfl
  obtain ⟨p, L, rfl, hS, hL, hP, hl, k⟩ := h
  refine ⟨_, (pss_cons (ps_asg (pe_ix ix_tup (pv 0) (pe_un un_neg pe_int) (fun _ _ => rfl)) (pg_tup rfl (pgs_cons (pg_name (i := 1) nd rfl (Or.inl rfl)) (pgs_cons (pg_name (i := 2) nd rfl (Or.inl rfl)) pgs_nil))))
      (pss_cons (ps_par3 (i := 3) (j := 4) (l := 5) (by rfl) nd rfl rfl rfl (by decide) (by decide) (by decide) rfl rfl rfl (pa_cons (pv 1) (pa_cons (pe_op op_add (pe_op op_sub (pv 2) (pv 1)) pe_int) (pa_cons (pe_tup (pa_cons pe_int pa_nil)) pa_nil))) (by rfl))
      (pss_cons (ps_for PassesOwn.never rfl (pi_tup (pe_revT (pe_slice sl_tupA (pv 0) po_none (po_some (pe_un un_neg pe_int))))) (pg_tup rfl (pgs_cons (pg_name (i := 1) nd rfl (Or.inl rfl)) (pgs_cons (pg_name (i := 2) nd rfl (Or.inl rfl)) pgs_nil)))
        (pss_cons (ps_set (i := 6) nd rfl (Or.inl rfl) (pe_callB (cr_max rfl) (by rfl) T.z_max (by decide +kernel) (pa_cons (pe_op op_cat (pe_op op_rep (pe_lst (pa_cons (pv 3) pa_nil)) (pe_callTy call_int1 (by rfl) T.z_int (by decide +kernel) (pa_cons (pe_cmpR op_ge (pv 2) (pv 1) (nomark _)) pa_nil))) (pe_op op_rep (pe_lst (pa_cons (pv 4) pa_nil)) (pe_callTy call_int1 (by rfl) T.z_int (by decide +kernel) (pa_cons (pe_cmpR op_ge (pv 1) pe_int (nomark _)) pa_nil)))) pa_nil)))
      (pss_one (ps_par3 (i := 3) (j := 4) (l := 5) (by rfl) nd rfl rfl rfl (by decide) (by decide) (by decide) rfl rfl rfl (pa_cons (pe_op op_add (pv 3) (pe_op op_mulW (pe_op op_sub (pv 1) pe_int) (pv 6))) (pa_cons (pe_op op_add (pv 4) (pe_op op_mulW (pe_op op_add (pe_op op_sub (pv 2) (pv 1)) pe_int) (pv 6))) (pa_cons (pe_op op_catA (pe_tup (pa_cons (pv 6) pa_nil)) (pv 5)) pa_nil))) (by rfl)))))
      (pss_one (ps_ret (pe_tup (pa_cons (pe_tup (pa_cons (pv 3) (pa_cons (pv 4) pa_nil))) (pa_cons (pv 5) pa_nil)))))))), ?_⟩
  obtain ⟨qs, hp, hq⟩ := hS.ex
  obtain ⟨A, x, rfl, hx⟩ := hL.last
  obtain ⟨x1k, x2k, x3k⟩ := hL.lev x (by simp)
  obtain ⟨qa, q0, rfl, hqa, hq0⟩ := hq.split
  have hla := hqa.len
  rw [List.map_append] at hp
  refine seq_cut (fun σ H' => σ = [some (.ref p), some (.int (x.1 : Int)), some (.int (x.2 : Int)), none, none, none, none] ∧ H = H') (fun N hN => ?_) ?_
  · exact ⟨_, rfl, _, rfl, p, _, _, _, rfl, rfl, SqT.of hp, at_last, q0, _, rfl, SqT.of hq0, rfl, _, _, rfl, _, _, rfl, rfl, hN _ _ ⟨rfl, rfl⟩⟩
  rintro σ H' ⟨rfl, rfl⟩
  refine seq_cut (fun σ H' => ∃ wl : Addr, σ = [some (.ref p), some (.int (x.1 : Int)), some (.int (x.2 : Int)), some (.int ((x.1 : Nat) : Int)), some (.int ((x.2 + 1 - x.1 : Nat) : Int)), some (.ref wl), none] ∧ Same H H' ∧ H' wl = some (.tup (nats [1]))) (fun N hN => ?_) ?_
  · refine ⟨_, rfl, _, rfl, _, rfl, _, _, rfl, rfl, _, _, rfl, rfl, (by show 1 ≤ sizeLine; decide), fun wl hwl => ⟨_, _, _, rfl, ?_⟩⟩
    dsimp only
    rw [show (x.2 : Int) - (x.1 : Int) + 1 = ((x.2 + 1 - x.1 : Nat) : Int) by omega]
    exact hN _ _ ⟨wl, rfl, same_upd _ hwl, upd_same⟩
  rintro σ H1 ⟨wl, rfl, e1, hw1⟩
  refine seq_cut (fun σ H' => ∃ (wl : Addr) (x1 x2 x6 : Option V), σ = [some (.ref p), x1, x2, some (.int ((pw (A ++ [x])).a : Int)), some (.int ((pw (A ++ [x])).b : Int)), some (.ref wl), x6] ∧ Same H H' ∧ H' wl = some (.tup (nats (pw (A ++ [x])).ws))) (fun N hN => ?_) ?_
  · refine ⟨_, rfl, _, rfl, _, rfl, ?_⟩
    refine slA_go (e1 _ _ hp) fun pc H2 e2 hc => ?_
    rw [List.map_singleton, cut_m1] at hc
    refine ⟨pc, _, rfl, SqT.of hc, fun pr hpr => ⟨pr, rfl, ⟨_, SqT.of upd_same⟩, ?_⟩⟩
    have e3 := e2.trans (same_upd (.tup (qa.map V.ref).reverse) hpr)
    have hr3 : upd H2 pr (.tup (qa.map V.ref).reverse) pr = some (.tup (qa.map V.ref).reverse) := upd_same
    generalize upd H2 pr (.tup (qa.map V.ref).reverse) = H3 at e3 hr3 ⊢
    refine for_tup (K := K) (a := pr) (xs := (qa.map V.ref).reverse) (fun i σ H' => ∃ (wl : Addr) (x1 x2 x6 : Option V), σ = [some (.ref p), x1, x2, some (.int ((pw ((A ++ [x]).drop (A.length - i))).a : Int)), some (.int ((pw ((A ++ [x]).drop (A.length - i))).b : Int)), some (.ref wl), x6] ∧ Same H H' ∧ H' pr = some (.tup (qa.map V.ref).reverse) ∧ H' wl = some (.tup (nats (pw ((A ++ [x]).drop (A.length - i))).ws))) ?_ ?_ ?_ ?_
    · rw [Nat.sub_zero, List.drop_left]
      exact ⟨wl, _, _, _, rfl, e1.trans e3, hr3, e3 _ _ hw1⟩
    · rintro i σ H' _ ⟨wl, x1, x2, x6, rfl, e, hr', hw'⟩
      exact SqT.of hr'
    · rintro i z σ H4 hz ⟨wl, x1, x2, x6, rfl, e, hr4, hw4⟩
      have hi : i < qa.length := by
        have := (List.getElem?_eq_some_iff.mp hz).1
        simpa using this
      rw [List.getElem?_reverse (by simpa using hi), List.getElem?_map, List.length_map] at hz
      obtain ⟨q, hq', rfl⟩ := Option.map_eq_some_iff.mp hz
      obtain ⟨y, hy, hHq⟩ := hqa.get hq'
      have hy' : (A ++ [x])[A.length - (i + 1)]? = some y := by
        rw [List.getElem?_append_left (by omega), ← hla, ← hy]
        congr 1
        omega
      have hstep : (A ++ [x]).drop (A.length - (i + 1)) = y :: (A ++ [x]).drop (A.length - i) := by
        rw [List.drop_eq_getElem_cons (by simp; omega)]
        obtain ⟨_, z⟩ := List.getElem?_eq_some_iff.mp hy'
        rw [z]
        congr 2
        omega
      have hok := ok_drop hL (A.length - i) (by simp; omega)
      have hpr' := pw_drop hL (A.length - i) (by simp; omega)
      obtain ⟨y1, y2, y3⟩ := hL.lev y (List.mem_of_getElem? hy')
      have hys : y.2 < 2 ^ 150 := by have := lev_pw hL y (List.mem_of_getElem? hy'); omega
      have hne := hok.ne
      have hwl4 : (pw ((A ++ [x]).drop (A.length - i))).ws.length ≤ 2001 := by
        rw [pw_len, List.length_drop]
        omega
      have hwpos : 0 < (pw ((A ++ [x]).drop (A.length - i))).ws.length := by
        rw [pw_len]
        exact List.length_pos_iff.mpr hne
      rw [hstep, pw_cons hne]
      generalize pw ((A ++ [x]).drop (A.length - i)) = P at hw4 hpr' hwl4 hwpos ⊢
      have hq4 := e _ _ hHq
      refine ⟨q, _, rfl, SqT.of hq4, rfl, _, _, rfl, _, _, rfl, rfl, ?_⟩
      have hw := wgt_le (k := y.1) (s := y.2) (a := P.a) (b := P.b)
      refine seq_cut (fun σ H' => σ = [some (.ref p), some (.int (y.1 : Int)), some (.int (y.2 : Int)), some (.int (P.a : Int)), some (.int (P.b : Int)), some (.ref wl), some (.int ((wgt y.1 y.2 P.a P.b : Nat) : Int))] ∧ Same H4 H') (fun N hN => ?_) ?_
      · obtain ⟨n1, n2⟩ := n_le1 y.1 y.2
        refine ⟨_, rfl, (by show 1 ≤ sizeLine; decide), fun o1 ho1 => ⟨_, rfl, _, rfl, _, _, rfl, rfl, .inr ⟨_, rfl, ?_⟩⟩⟩
        refine ⟨o1, _, _, rfl, rfl, upd_same, by split <;> decide, by split <;> decide, ?_, fun o2 ho2 => ?_⟩
        · show 1 * nA y.1 y.2 ≤ sizeLine
          exact Nat.le_trans (m := 1) (by omega) (by decide)
        have i1 := same_upd (.lst [.int (P.a : Int)]) ho1
        rw [rep_flatV]
        have i2 := same_upd2 (.lst (List.replicate (nA y.1 y.2) (V.int (P.a : Int)))) i1 (i1.free ho2)
        have h2 : upd (upd H4 o1 (.lst [.int (P.a : Int)])) o2 (.lst (List.replicate (nA y.1 y.2) (V.int (P.a : Int)))) o2 = some (.lst (List.replicate (nA y.1 y.2) (V.int (P.a : Int)))) := upd_same
        show (tOp rRep _ _ _ (upd (upd H4 o1 (.lst [.int (P.a : Int)])) o2 (.lst (List.replicate (nA y.1 y.2) (V.int (P.a : Int))))) _)
        generalize upd (upd H4 o1 (.lst [.int (P.a : Int)])) o2 (.lst (List.replicate (nA y.1 y.2) (V.int (P.a : Int)))) = Hb at i2 h2 ⊢
        refine ⟨_, rfl, (by show 1 ≤ sizeLine; decide), fun o3 ho3 => ⟨_, rfl, _, _, rfl, rfl, .inr ⟨_, rfl, ?_⟩⟩⟩
        refine ⟨o3, _, _, rfl, rfl, upd_same, by split <;> decide, by split <;> decide, ?_, fun o4 ho4 => ?_⟩
        · show 1 * nB y.1 ≤ sizeLine
          exact Nat.le_trans (m := 1) (by omega) (by decide)
        rw [rep_flatV]
        have i3 := same_upd (.lst [.int (P.b : Int)]) ho3
        have i4 := i3.trans (same_upd (.lst (List.replicate (nB y.1) (V.int (P.b : Int)))) ho4)
        refine ⟨o2, o4, _, _, rfl, rfl, i4 _ _ h2, upd_same, ?_, fun o5 ho5 => ?_⟩
        · rw [List.length_replicate, List.length_replicate]
          show nA y.1 y.2 + nB y.1 ≤ sizeLine
          exact Nat.le_trans (m := 2) (by omega) (by decide)
        have i5 := i4.trans (same_upd (.lst (List.replicate (nA y.1 y.2) (V.int (P.a : Int)) ++ List.replicate (nB y.1) (V.int (P.b : Int)))) ho5)
        dsimp only [tNil]
        refine ⟨o5, mxs y.1 y.2 P.a P.b, rfl, SqL.of (by rw [upd_same, List.map_append, List.map_replicate, List.map_replicate]), mxs_len y1 y2 y3, fun m hm hall => ?_⟩
        rw [mxs_wgt y1 y2 y3 hm hall]
        exact hN _ _ ⟨rfl, i2.trans i5⟩
      rintro σ H5 ⟨rfl, e5⟩
      have hr5 := e5 _ _ hr4
      have hw5 := e5 _ _ hw4
      unfold pwUp
      dsimp only
      generalize wgt y.1 y.2 P.a P.b = v at hw
      have z1 : (y.1 : Int) - 1 = ((y.1 - 1 : Nat) : Int) := by omega
      have z2 : (y.2 : Int) - (y.1 : Int) + 1 = ((y.2 + 1 - y.1 : Nat) : Int) := by omega
      refine ⟨_, rfl, _, rfl, _, _, rfl, rfl, _, rfl, _, _, rfl, rfl, ?_, _, _, rfl, rfl, ?_⟩
      · rw [z1]
        exact wide_mul (a := 160) (b := 160) (by omega) (by omega) (by decide) (by decide) (by decide)
      dsimp only
      refine ⟨_, rfl, _, rfl, _, rfl, _, _, rfl, rfl, _, _, rfl, rfl, _, rfl, _, _, rfl, rfl, ?_, _, _, rfl, rfl, ?_⟩
      · rw [z2]
        exact wide_mul (a := 160) (b := 160) (by omega) (by omega) (by decide) (by decide) (by decide)
      dsimp only
      refine ⟨_, rfl, (by show 1 ≤ sizeLine; decide), fun o1 ho1 => ?_⟩
      have j1 := same_upd (.tup [.int (v : Int)]) ho1
      refine ⟨_, rfl, o1, wl, _, _, rfl, rfl, SqT.of upd_same, SqT.of (j1 _ _ hw5), ?_, fun z => (nomatch z), fun _ z => ?_, fun _ _ o2 ho2 => ?_⟩
      · rw [nats_len]
        show 1 + P.ws.length ≤ sizeLine
        exact Nat.le_trans (m := 10000) (by omega) (by decide)
      · exact absurd (congrArg List.length z) (by rw [nats_len]; exact Nat.ne_of_gt hwpos)
      have j2 := j1.trans (same_upd (.tup ([.int (v : Int)] ++ nats P.ws)) ho2)
      refine ⟨_, _, _, rfl, ?_⟩
      refine ⟨o2, some (.int (y.1 : Int)), some (.int (y.2 : Int)), some (.int (v : Int)), ?_, e.trans (e5.trans j2), j2 _ _ hr5, upd_same⟩
      rw [z1, z2, ← Int.natCast_mul, ← Int.natCast_mul, ← Int.natCast_add, ← Int.natCast_add]
      rfl
    · rintro σ H' ⟨wl, x1, x2, x6, rfl, e, hr', hw'⟩
      rw [List.length_reverse, List.length_map, hla, Nat.sub_self, List.drop_zero] at hw' ⊢
      exact hN _ _ ⟨wl, x1, x2, x6, rfl, e, hw'⟩
  rintro σ H5 ⟨wl, x1, x2, x6, rfl, e5, hw5⟩
  refine ⟨_, rfl, _, rfl, (by show 2 ≤ sizeLine; decide), fun t1 ht1 => ⟨_, rfl, (by show 2 ≤ sizeLine; decide), fun t2 ht2 => ?_⟩⟩
  have g1 := same_upd (.tup [.int ((pw (A ++ [x])).a : Int), .int ((pw (A ++ [x])).b : Int)]) ht1
  have g2 := same_upd (.tup [.ref t1, .ref wl]) ht2
  exact k t2 _ (e5.trans (g1.trans g2)) ⟨t1, wl, upd_same, g2 _ _ upd_same, g2 _ _ (g1 _ _ hw5)⟩

/-! ### the deck *--/
theorem get_ints {L : List Int} {i : Nat} {x : V} (h : (L.map V.int)[i]? = some x) : ∃ z, L[i]? = some z ∧ x = .int z := by
  rw [List.getElem?_map] at h
  cases e : L[i]? with
  | none =>
    rw [e] at h
    cases h
  | some z =>
    rw [e] at h
    exact ⟨z, rfl, (Option.some.inj h).symm⟩
theorem kt_lst {H : Hp} {D : Addr} {xs ys : List V} (h : H D = some (.lst xs)) : KT H (upd H D (.lst ys)) := fun a zs q => by
  rw [upd_ne (ne_of q h (by intro z; cases z))]
  exact q
/-! ### the bag that is drawn from -/
def bagK (g : Addr) (m : Int) : List (Key × V) := [(.inr "deep", .ref g), (.inr "state", .int m)]
structure Bag (H : Hp) (b g : Addr) : Prop where
  ex : ∃ (ms : List Int) (m : Int), H b = some (.dK (bagK g m)) ∧ H g = some (.lst (ms.map V.int)) ∧ ms.length ≤ 1000
/-- all but the bag is kept -/
def Keep (b g : Addr) (H H' : Hp) : Prop := ∀ a o, a ≠ b → a ≠ g → H a = some o → H' a = some o
theorem Keep.refl (b g : Addr) (H : Hp) : Keep b g H H := fun _ _ _ _ h => h
theorem Keep.trans {b g : Addr} {H H1 H2 : Hp} (x : Keep b g H H1) (y : Keep b g H1 H2) : Keep b g H H2 := fun a o n1 n2 h => y a o n1 n2 (x a o n1 n2 h)
theorem Keep.same {b g : Addr} {H H1 : Hp} (e : Same H H1) : Keep b g H H1 := fun a o _ _ h => e a o h
theorem Keep.new {b g : Addr} {H H1 : Hp} {p : Addr} (o : HO) (x : Keep b g H H1) (h : H1 p = none) : Keep b g H (upd H1 p o) := x.trans (.same (same_upd _ h))
theorem Keep.at_b {b g : Addr} {H H1 : Hp} (o : HO) (x : Keep b g H H1) : Keep b g H (upd H1 b o) := fun a u n1 n2 h => by
  rw [upd_ne n1]
  exact x a u n1 n2 h
theorem Keep.at_g {b g : Addr} {H H1 : Hp} (o : HO) (x : Keep b g H H1) : Keep b g H (upd H1 g o) := fun a u n1 n2 h => by
  rw [upd_ne n2]
  exact x a u n1 n2 h
theorem Bag.ne {H : Hp} {b g : Addr} (B : Bag H b g) : b ≠ g := by
  obtain ⟨ms, m, h1, h2, _⟩ := B.ex
  exact ne_of h1 h2 (by intro z; cases z)
theorem Bag.some_b {H : Hp} {b g : Addr} (B : Bag H b g) : ∃ o, H b = some o := by
  obtain ⟨ms, m, h1, h2, _⟩ := B.ex
  exact ⟨_, h1⟩
theorem Bag.some_g {H : Hp} {b g : Addr} (B : Bag H b g) : ∃ o, H g = some o := by
  obtain ⟨ms, m, h1, h2, _⟩ := B.ex
  exact ⟨_, h2⟩
theorem Bag.off {H : Hp} {b g p : Addr} (B : Bag H b g) (h : H p = none) : p ≠ b ∧ p ≠ g := by
  obtain ⟨o, h1⟩ := B.some_b
  obtain ⟨u, h2⟩ := B.some_g
  exact ⟨(ne_of_none h1 h).symm, (ne_of_none h2 h).symm⟩
theorem Bag.same {H H1 : Hp} {b g : Addr} (B : Bag H b g) (e : Same H H1) : Bag H1 b g := by
  obtain ⟨ms, m, h1, h2, h3⟩ := B.ex
  exact ⟨ms, m, e _ _ h1, e _ _ h2, h3⟩
theorem Bag.free {H H1 : Hp} {b g p : Addr} (B : Bag H b g) (k : Keep b g H H1) (B1 : Bag H1 b g) (h : H1 p = none) : H p = none := by
  cases q : H p with
  | none => rfl
  | some o =>
    by_cases e1 : p = b
    · obtain ⟨u, z⟩ := B1.some_b
      rw [e1, z] at h
      cases h
    · by_cases e2 : p = g
      · obtain ⟨u, z⟩ := B1.some_g
        rw [e2, z] at h
        cases h
      · rw [k p o e1 e2 q] at h
        cases h
/-- tuples outlast draws -/
theorem Keep.kt {b g : Addr} {H H1 : Hp} (B : Bag H b g) (k : Keep b g H H1) : KT H H1 := fun a xs h => by
  obtain ⟨ms, m, h1, h2, _⟩ := B.ex
  exact k a _ (ne_of h h1 (by intro z; cases z)) (ne_of h h2 (by intro z; cases z)) h
theorem dp_ints {K : PySem.W.Frag} {H : Hp} : ∀ ms : List Int, DpAll K H (ms.map V.int) (ms.map PyData.int)
  | [] => .nil
  | m :: ms => .cons (.int m) (dp_ints ms)
theorem lay_ints : ∀ ms : List Int, PyData.canLayAll0 (ms.map PyData.int) = true
  | [] => by simp [PyData.canLayAll0]
  | m :: ms => by simp [PyData.canLayAll0, PyData.canLay0, lay_ints ms]
theorem depth_ints : ∀ ms : List Int, PyData.depthAll (ms.map PyData.int) = 0
  | [] => by simp [PyData.depthAll]
  | m :: ms => by simp [PyData.depthAll, PyData.depth, depth_ints ms]
theorem shaped_ints (ms : List Int) : SeqAt.shaped (.list (ms.map PyData.int)) = true := by
  unfold SeqAt.shaped
  rw [Bool.and_eq_true]
  refine ⟨by rw [PyData.canLay0]; exact lay_ints ms, decide_eq_true ?_⟩
  rw [PyData.depth, depth_ints]
  omega
theorem eqv_nil (ms : List Int) : PyData.eqv (.list (ms.map PyData.int)) (.list []) = decide (ms = []) := by
  cases ms with
  | nil => simp [PyData.eqv, PyData.eqvAll]
  | cons m ms => simp [PyData.eqv, PyData.eqvAll]
theorem shaped_nil : SeqAt.shaped (.list []) = true := shaped_ints []
theorem last_of {ms : List Int} (h : ms ≠ []) : ∃ init z, ms = init ++ [z] := ⟨ms.dropLast, ms.getLast h, (List.dropLast_concat_getLast h).symm⟩
theorem ixN_last (n : Nat) : ixN (n + 1) (-1) = some n := by
  unfold ixN
  rw [if_neg (by omega), if_pos (by omega)]
  congr 1
  omega
theorem set_last (init : List Int) (z y : Int) : ((init ++ [z]).map V.int).set init.length (.int y) = (init ++ [y]).map V.int := by
  rw [List.map_append, List.map_append, List.set_append, if_neg (by simp)]
  simp
def spDraw : Sp := fun vs H Q _ => ∃ (b g : Addr) (many : Int), vs = [.ref b, .int many] ∧ Bag H b g ∧ -1000000000 < many ∧ many < 1000000000 ∧
  ∀ (r : Int) (H' : Hp), 0 ≤ r → (1 ≤ many → r < many) → Keep b g H H' → Bag H' b g → Q (.int r) H'
theorem ok__law_take (T : Cd K mg) : FnOk P w K mg base CX0 1 T.a__law_take T.d__law_take p__law_take spDraw := by
  have nd : (n__law_take : List Str).Nodup := sc__law_take.nd
  refine T.F__law_take.ok sc__law_take (fun vs H Q E h => ?_) (fun cdv A outer s H vs Q E hr h => ?_)
  · obtain ⟨b, g, many, rfl, _⟩ := h
    rfl
  obtain ⟨b, g, many, rfl, B, hm1, hm2, k⟩ := h
  have hu := hu_of hr
  have hu64 := hr.units
  refine ⟨_, (pss_cons (ps_if (pt_cmpR op_lt (pv 1) pe_int (nomark _)) (pss_one (ps_ret pe_int)) pss_nil)
      (pss_cons (ps_if (pt_cmpR (op_neD hu64) (pe_dget hu (pv 0) pe_str (fun _ _ => rfl)) (pe_lst pa_nil) (nomark _)) (pss_cons (ps_set (i := 2) nd rfl (Or.inl rfl) (pe_bm0 PySem.F.plainAttrs_list PySem.F.slot_list_pop PySem.F.type_list_pop mt_pop (pe_dget hu (pv 0) pe_str (fun _ _ => rfl))))
      (pss_cons (ps_if (pt_cmpR op_ge (pv 2) (pv 1) (nomark _)) (pss_one (ps_expr (pe_bm PySem.F.plainAttrs_list PySem.F.slot_list_append PySem.F.type_list_append mt_append (pe_dget hu (pv 0) pe_str (fun _ _ => rfl)) (pa_cons (pe_op op_fdivN (pv 2) (pv 1)) pa_nil)))) pss_nil)
      (pss_one (ps_ret (pe_op op_modN (pe_callTy call_int1 (by rfl) T.z_int (by decide +kernel) (pa_cons (pv 2) pa_nil)) (pv 1)))))) pss_nil)
      (pss_cons (ps_set (i := 3) nd rfl (Or.inl rfl) (pe_op op_mod (pe_callTy call_int1 (by rfl) T.z_int (by decide +kernel) (pa_cons (pe_op op_add (pe_op op_mul (pe_dget hu (pv 0) pe_str (fun _ _ => rfl)) pe_int) pe_int) pa_nil)) pe_int))
      (pss_cons (ps_dput hu (pv 0) pe_str (pv 3) rfl)
      (pss_one (ps_ret (pe_op op_modN (pe_callTy call_int1 (by rfl) T.z_int (by decide +kernel) (pa_cons (pe_op op_fdiv (pe_op op_mod (pe_callTy call_int1 (by rfl) T.z_int (by decide +kernel) (pa_cons (pe_op op_add (pe_op op_mul (pv 3) (pv 3)) (pe_op op_mul pe_int (pv 3))) pa_nil)) pe_int) pe_int) pa_nil)) (pv 1)))))))), ?_⟩
  obtain ⟨ms, mi, hb, hg, hl⟩ := B.ex
  refine ⟨_, rfl, _, _, rfl, rfl, _, rfl, ite2 (fun hc => ?_) (fun hc => ?_)⟩
  · have hc' : many < 2 := of_decide_eq_true hc
    exact k 0 H (by omega) (by omega) (Keep.refl _ _ _) B
  have hc' : ¬ many < 2 := fun z => hc (decide_eq_true z)
  refine ⟨_, rfl, b, _, rfl, DGet.k (k := .inr "deep") hb, (by show 0 ≤ sizeLine; decide), fun p hp => ?_⟩
  have e1 : Same H (upd H p (.lst [])) := same_upd _ hp
  have k1 := (Keep.refl b g H).new (.lst []) hp
  refine ⟨_, _, .lst (SqL.of (e1 _ _ hg)) (dp_ints ms), .lst (SqL.of upd_same) .nil, shaped_ints ms, shaped_nil, _, rfl, ?_⟩
  rw [eqv_nil]
  have hb1 := e1 _ _ hb
  have hg1 := e1 _ _ hg
  generalize hH1 : upd H p (.lst []) = H1 at hb1 hg1 k1 e1 ⊢
  by_cases hn : ms = []
  · rw [decide_eq_true hn]
    refine iteF ?_
    refine ⟨_, rfl, b, _, rfl, DGet.k (k := .inr "state") hb1, _, _, rfl, rfl, .inr ⟨by decide, by decide⟩, _, _, rfl, rfl, .inl ⟨_, rfl, _, _, rfl, rfl, (by show (0 : Int) < 2305843009213693951; decide), ?_⟩⟩
    dsimp only
    generalize hf : (mi * 2862933555777941757 + 3037000493) % 2305843009213693951 = f1
    have f1a : 0 ≤ f1 ∧ f1 < 2305843009213693951 := by rw [← hf]; exact ⟨Int.emod_nonneg _ (by decide), Int.emod_lt_of_pos _ (by decide)⟩
    refine ⟨_, rfl, _, rfl, b, _, rfl, DPut.k (k := .inr "state") hb1 (by show 2 < sizeLine; decide), ?_⟩
    have hb2 : upd H1 b (.dK (putK (bagK g mi) (.inr "state") (.int f1))) b = some (.dK (bagK g f1)) := upd_same
    have hg2 : upd H1 b (.dK (putK (bagK g mi) (.inr "state") (.int f1))) g = some (.lst (ms.map V.int)) := by rw [upd_ne B.ne.symm]; exact hg1
    have k2 := k1.at_b (.dK (putK (bagK g mi) (.inr "state") (.int f1)))
    generalize upd H1 b (.dK (putK (bagK g mi) (.inr "state") (.int f1))) = H2 at hb2 hg2 k2 ⊢
    refine ⟨_, rfl, _, rfl, _, _, rfl, rfl, .inl ⟨by omega, by omega⟩, _, rfl, _, _, rfl, rfl, .inl ⟨by decide, by decide⟩, _, _, rfl, rfl, .inl ⟨_, rfl, _, _, rfl, rfl, (by show (0 : Int) < 2305843009213693921; decide), ?_⟩⟩
    dsimp only
    generalize (f1 * f1 + 362436069 * f1) % 2305843009213693921 = f2
    refine ⟨_, _, rfl, rfl, ⟨by decide, by decide⟩, .inl ⟨_, rfl, _, rfl, _, _, rfl, rfl, by omega, ?_⟩⟩
    exact k _ H2 (Int.fmod_nonneg_of_pos _ (by omega)) (fun _ => Int.fmod_lt_of_pos _ (by omega)) k2 ⟨ms, f1, hb2, hg2, hl⟩
  · rw [decide_eq_false hn]
    obtain ⟨init, z, rfl⟩ := last_of hn
    refine iteT ?_
    refine ⟨_, rfl, b, _, rfl, DGet.k (k := .inr "deep") hb1, .inl ⟨rfl, _, SqL.of hg1⟩, g, _, .int z, rfl, rfl, hg1, ?_, ?_⟩
    · rw [List.map_append]
      simp
    have hdl : (List.map V.int (init ++ [z])).dropLast = init.map V.int := by rw [List.map_append, List.map_singleton, List.dropLast_concat]
    rw [hdl]
    have hb2 : upd H1 g (.lst (init.map V.int)) b = some (.dK (bagK g mi)) := by rw [upd_ne B.ne]; exact hb1
    have hg2 : upd H1 g (.lst (init.map V.int)) g = some (.lst (init.map V.int)) := upd_same
    have k2 := k1.at_g (.lst (init.map V.int))
    have hl2 : init.length + 1 ≤ 1000 := by rw [List.length_append] at hl; exact hl
    generalize upd H1 g (.lst (init.map V.int)) = H2 at hb2 hg2 k2 ⊢
    refine ⟨_, rfl, _, rfl, _, _, rfl, rfl, _, rfl, ite2 (fun _ => ?_) (fun _ => ?_)⟩
    · refine ⟨_, rfl, b, _, rfl, DGet.k (k := .inr "deep") hb2, .inl ⟨rfl, _, SqL.of hg2⟩, _, rfl, _, rfl, _, _, rfl, rfl, ⟨by omega, by omega⟩, g, _, _, rfl, rfl, hg2, ?_, ?_⟩
      · rw [List.length_map]
        exact Nat.lt_of_le_of_lt (m := 1000) (by omega) (by decide)
      refine ⟨_, rfl, .inl ⟨_, rfl, _, rfl, _, _, rfl, rfl, by omega, ?_⟩⟩
      refine k _ _ (Int.fmod_nonneg_of_pos _ (by omega)) (fun _ => Int.fmod_lt_of_pos _ (by omega)) (k2.at_g _) ⟨init ++ [z.fdiv many], mi, ?_, ?_, ?_⟩
      · rw [upd_ne B.ne]
        exact hb2
      · rw [upd_same, List.map_append]
        rfl
      · rw [List.length_append]
        exact hl2
    · refine ⟨_, rfl, .inl ⟨_, rfl, _, rfl, _, _, rfl, rfl, by omega, ?_⟩⟩
      exact k _ _ (Int.fmod_nonneg_of_pos _ (by omega)) (fun _ => Int.fmod_lt_of_pos _ (by omega)) k2 ⟨init, mi, hb2, hg2, by omega⟩
/-! ### the deck is laid -/
def spBag (K : PySem.W.Frag) : Sp := fun vs H Q _ => ∃ (a : Addr) (ns : List Int), vs = [.ref a] ∧ SqL K H a (ns.map V.int) ∧ ∀ (b g : Addr) (H' : Hp), Same H H' → H b = none → H g = none → Bag H' b g → Q (.ref b) H'
theorem ok__law_urn (T : Cd K mg) : FnOk P w K mg base CX0 1 T.a__law_urn T.d__law_urn p__law_urn (spBag K) := by
  have nd : (n__law_urn : List Str).Nodup := sc__law_urn.nd
  refine T.F__law_urn.ok sc__law_urn (fun vs H Q E h => ?_) (fun cdv A outer s H vs Q E hr h => ?_)
  · obtain ⟨a, ns, rfl, _⟩ := h
    rfl
  obtain ⟨a, ns, rfl, hS, k⟩ := h
  have hu := hu_of hr
  refine ⟨_, (pss_cons (ps_set (i := 1) nd rfl (Or.inl rfl) (pe_disp (pps_cons pe_str (pe_lst pa_nil) (pps_cons pe_str (pe_op op_add pe_int (pe_callB call_len_seq (by rfl) T.z_len (by decide +kernel) (pa_cons (pe_slice sl_list (pv 0) po_none (po_some pe_int)) pa_nil))) pps_nil)) (by rfl) (by rfl) (fun z => by cases z) (by decide)))
      (pss_cons (ps_for PassesOwn.never rfl (pi_list (pe_slice sl_list (pv 0) po_none (po_some pe_int))) (pg_name (i := 2) nd rfl (Or.inl rfl))
        (pss_cons (ps_if (pt_cmpR op_ge (pe_callB call_abs (by rfl) T.z_abs (by decide +kernel) (pa_cons (pv 2) pa_nil)) (pe_op op_pow pe_int pe_int) (nomark _)) (pss_one (ps_expr (pe_bm PySem.F.plainAttrs_list PySem.F.slot_list_append PySem.F.type_list_append mt_append (pe_dget hu (pv 1) pe_str (fun _ _ => rfl)) (pa_cons (pe_callB call_abs (by rfl) T.z_abs (by decide +kernel) (pa_cons (pv 2) pa_nil)) pa_nil)))) pss_nil)
      (pss_cons (ps_set (i := 3) nd rfl (Or.inl rfl) (pe_op op_add (pe_op op_mul pe_int (pe_callB call_abs (by rfl) T.z_abs (by decide +kernel) (pa_cons (pv 2) pa_nil))) (pe_callTy call_int1 (by rfl) T.z_int (by decide +kernel) (pa_cons (pe_cmpR op_lt (pv 2) pe_int (nomark _)) pa_nil))))
      (pss_one (ps_dput hu (pv 1) pe_str (pe_op op_mod (pe_callTy call_int1 (by rfl) T.z_int (by decide +kernel) (pa_cons (pe_op op_add (pe_op op_mul (pe_op op_add (pe_op op_add (pe_dget hu (pv 1) pe_str (fun _ _ => rfl)) (pv 3)) pe_int) pe_int) pe_int) pa_nil)) pe_int) rfl)))))
      (pss_one (ps_ret (pv 1))))), ?_⟩
  intro b hb0
  refine ⟨(by show 0 ≤ sizeLine; decide), fun g hg0 => ?_⟩
  have e1 : Same H (upd H b (.dK [])) := same_upd _ hb0
  have e2 : Same H (upd (upd H b (.dK [])) g (.lst [])) := same_upd2 _ e1 (e1.free hg0)
  have nbg : b ≠ g := ne_of_none upd_same hg0
  refine ⟨_, rfl, _, rfl, a, _, rfl, e2.seq hS, fun p0 hp0 => ⟨p0, _, rfl, .inl (SqL.of upd_same), _, _, rfl, rfl, ?_⟩⟩
  have e3 : Same H (upd (upd (upd H b (.dK [])) g (.lst [])) p0 (.lst (cutV (ns.map V.int) none (some 63)))) := same_upd2 _ e2 (e2.free hp0)
  have nbp : b ≠ p0 := ne_of_none (by rw [upd_ne nbg, upd_same]) hp0
  have ngp : g ≠ p0 := ne_of_none upd_same hp0
  refine ⟨by rw [upd_ne nbp, upd_ne nbg, upd_same], bagK g _, rfl, (by show 2 ≤ 15; decide), ?_⟩
  have hb1 : ∀ m, upd (upd (upd (upd H b (.dK [])) g (.lst [])) p0 (.lst (cutV (ns.map V.int) none (some 63)))) b (.dK (mergeK [] (bagK g m))) b = some (.dK (bagK g m)) := fun m => upd_same
  have hg1 : ∀ m, upd (upd (upd (upd H b (.dK [])) g (.lst [])) p0 (.lst (cutV (ns.map V.int) none (some 63)))) b (.dK (mergeK [] (bagK g m))) g = some (.lst []) := fun m => by rw [upd_ne nbg.symm, upd_ne ngp, upd_same]
  have e4 : ∀ m, Same H (upd (upd (upd (upd H b (.dK [])) g (.lst [])) p0 (.lst (cutV (ns.map V.int) none (some 63)))) b (.dK (mergeK [] (bagK g m)))) := fun m => same_upd2 _ e3 hb0
  obtain ⟨ls, hls, hll⟩ := cut_ints ns none (some 63)
  have hll63 : ls.length ≤ 63 := by
    have := congrArg List.length hls
    rw [List.length_map] at this
    rw [← this]
    unfold cutV
    rw [HT.sIx_none, List.length_take]
    rw [show (some 63 : Option Int) = some ((63 : Nat) : Int) from rfl, HT.sIx_nat]
    omega
  refine ⟨_, rfl, _, rfl, a, _, rfl, (e4 _).seq hS, fun p hp => ⟨p, rfl, ⟨_, SqL.of upd_same⟩, for_list (K := K) (a := p) (xs := ls.map V.int) (fun i σ H' => ∃ (m : Int) (x2 x3 : Option V) (ms : List Int), σ = [some (.ref a), some (.ref b), x2, x3] ∧ Same H H' ∧
    H' p = some (.lst (ls.map V.int)) ∧ H' b = some (.dK (bagK g m)) ∧ H' g = some (.lst (ms.map V.int)) ∧ ms.length ≤ i) ?_ ?_ ?_ ?_⟩⟩
  · have n1 : b ≠ p := ne_of_none (hb1 _) hp
    have n2 : g ≠ p := ne_of_none (hg1 _) hp
    refine ⟨707071 + ((cutV (ns.map V.int) none (some 63)).length : Int), none, none, [], rfl, same_upd2 _ (e4 _) ((e4 _).free hp), by rw [upd_same, hls], ?_, ?_, Nat.zero_le _⟩
    · rw [upd_ne n1]
      exact hb1 _
    · rw [upd_ne n2]
      exact hg1 _
  · rintro i σ H' _ ⟨m, x2, x3, ms, rfl, e, h1, _⟩
    exact SqL.of h1
  · rintro i x σ H' hx ⟨m, x2, x3, ms, rfl, e, h1, h2, h3, h4⟩
    obtain ⟨z, hz, rfl⟩ := get_ints hx
    have hi : i < ls.length := (List.getElem?_eq_some_iff.mp hz).1
    have nbp : p ≠ b := ne_of h1 h2 (by intro z; cases z)
    have nbg : g ≠ b := ne_of h3 h2 (by intro z; cases z)
    refine seq_cut (fun σ' H2 => ∃ (ms : List Int), σ' = [some (.ref a), some (.ref b), some (.int z), x3] ∧ Same H H2 ∧ H2 p = some (.lst (ls.map V.int)) ∧ H2 b = some (.dK (bagK g m)) ∧ H2 g = some (.lst (ms.map V.int)) ∧ ms.length ≤ i + 1) (fun N hN => ?_) ?_
    · refine ⟨_, rfl, _, rfl, _, _, rfl, rfl, ⟨by decide, by decide, by decide⟩, _, _, rfl, rfl, _, rfl, ite2 (fun _ => ?_) (fun _ => hN _ _ ⟨ms, rfl, e, h1, h2, h3, by omega⟩)⟩
      refine ⟨_, rfl, b, _, rfl, DGet.k (k := .inr "deep") h2, .inl ⟨rfl, _, SqL.of h3⟩, _, rfl, _, rfl, g, _, _, rfl, rfl, h3, ?_, ?_⟩
      · rw [List.length_map]
        exact Nat.lt_of_le_of_lt (m := 1000) (by omega) (by decide)
      have n2 : g ≠ p := ne_of_none (hg1 _) hp
      refine hN _ _ ⟨ms ++ [if z < 0 then -z else z], rfl, same_upd2 _ e (e1.free hg0), ?_, ?_, ?_, by rw [List.length_append, List.length_singleton]; omega⟩
      · rw [upd_ne n2.symm]
        exact h1
      · rw [upd_ne nbg.symm]
        exact h2
      · rw [upd_same, List.map_append]
        rfl
    · rintro σ' H2 ⟨ms, rfl, e, h1, h2, h3, h4⟩
      have nbg : g ≠ b := ne_of h3 h2 (by intro z; cases z)
      refine ⟨_, rfl, _, rfl, _, _, rfl, rfl, .inl ⟨by decide, by decide⟩, _, rfl, _, _, rfl, rfl, .inr ⟨_, rfl, _, _, rfl, rfl, ?_⟩⟩
      refine ⟨_, rfl, b, _, rfl, DGet.k (k := .inr "state") h2, _, rfl, _, _, rfl, rfl, _, _, rfl, rfl, _, _, rfl, rfl, .inr ⟨by decide, by decide⟩, _, _, rfl, rfl, .inl ⟨_, rfl, _, _, rfl, rfl, (by show (0 : Int) < 2305843009213693951; decide), ?_⟩⟩
      refine ⟨_, rfl, b, _, rfl, DPut.k (k := .inr "state") h2 (by show 2 < sizeLine; decide), ?_⟩
      refine ⟨_, _, _, ms, rfl, same_upd2 _ e hb0, ?_, upd_same, ?_, h4⟩
      · rw [upd_ne nbp]
        exact h1
      · rw [upd_ne nbg]
        exact h3
  · rintro σ H' ⟨m, x2, x3, ms, rfl, e, h1, h2, h3, h4⟩
    rw [List.length_map] at h4
    exact ⟨_, rfl, k b g H' e hb0 (e1.free hg0) ⟨ms, m, h2, h3, by omega⟩⟩

/-! ### plain shapes of pairs, as mathematics *--/
abbrev Stp := List (Bool × Nat)
def stp : Nat → Nat → Nat → Stp
  | 0, _, _ => []
  | f + 1, a, b => if a = b then [] else if a < b then (true, (b - 1) / a) :: stp f a (b - (b - 1) / a * a) else (false, (a - 1) / b) :: stp f (a - (a - 1) / b * b) b
def levN (x : Bool × Nat) : Nat × Nat := (if x.1 = true then 1 else x.2 + 1, x.2)
def plainN : Stp → Shp
  | [] => [(1, 1)]
  | [x] => [((levN x).1, x.2 + 1)]
  | x :: y :: r => levN x :: plainN (y :: r)
theorem plainN_ne : ∀ s, plainN s ≠ []
  | [] => by simp [plainN]
  | [x] => by simp [plainN]
  | x :: y :: r => by simp [plainN]
/-- one step back *--/
theorem plain_up (x : Bool × Nat) (hx : 1 ≤ x.2) : ∀ r : Stp, (pw (plainN (x :: r))).a = (if x.1 = true then (pw (plainN r)).a else (pw (plainN r)).a + x.2 * (pw (plainN r)).b) ∧ (pw (plainN (x :: r))).b = (if x.1 = true then (pw (plainN r)).b + x.2 * (pw (plainN r)).a else (pw (plainN r)).b)
  | [] => by
    obtain ⟨b, q⟩ := x
    cases b
    · refine ⟨?_, ?_⟩
      · simp [plainN, levN, pw, pwIn]; omega
      · simp [plainN, levN, pw, pwIn]
    · refine ⟨?_, ?_⟩
      · simp [plainN, levN, pw, pwIn]
      · simp [plainN, levN, pw, pwIn]; omega
  | y :: r => by
    obtain ⟨b, q⟩ := x
    dsimp only at hx
    rw [plainN, pw_cons (plainN_ne _)]
    generalize pw (plainN (y :: r)) = p
    cases b
    · have hw : wgt (q + 1) q p.a p.b = p.b := wgt_all (by omega) (by omega)
      simp [levN, pwUp, hw]
    · have hw : wgt 1 q p.a p.b = p.a := wgt_one rfl
      simp [levN, pwUp, hw]
theorem plain_ok : ∀ s : Stp, (∀ x ∈ s, 1 ≤ x.2) → Ok (plainN s)
  | [], _ => Ok.one (Nat.le_refl _) (Nat.le_refl _)
  | [x], h => by
    have := h x List.mem_cons_self
    rw [plainN]
    refine Ok.one ?_ ?_
    · unfold levN; dsimp only; split <;> omega
    · unfold levN; dsimp only; split <;> omega
  | x :: y :: r, h => by
    have := h x List.mem_cons_self
    rw [plainN]
    refine (plain_ok (y :: r) fun z hz => h z (List.mem_cons_of_mem _ hz)).up ?_ ?_ this
    · split <;> omega
    · split <;> omega
theorem div_step {a b : Nat} (ha : 1 ≤ a) (h : a < b) : 1 ≤ (b - 1) / a ∧ (b - 1) / a * a < b ∧ b - (b - 1) / a * a ≤ a ∧ b - (b - 1) / a * a + (b - 1) / a * a = b := by
  have h1 := Nat.div_add_mod (b - 1) a
  have h2 := Nat.mod_lt (b - 1) (show 0 < a by omega)
  have h3 : 1 ≤ (b - 1) / a := Nat.div_pos (by omega) (by omega)
  rw [Nat.mul_comm] at h1
  omega
theorem gcd_step {a b q : Nat} (h : q * a < b) : Nat.gcd a (b - q * a) = Nat.gcd a b := by
  have e : b = b - q * a + q * a := by omega
  conv => rhs; rw [e]
  rw [Nat.gcd_add_mul_right_right]
theorem stp_pos : ∀ (f a b : Nat), 1 ≤ a → 1 ≤ b → ∀ x ∈ stp f a b, 1 ≤ x.2
  | 0, _, _, _, _, x, h => nomatch h
  | f + 1, a, b, ha, hb, x, h => by
    rw [stp] at h
    by_cases c : a = b
    · rw [if_pos c] at h
      cases h
    · rw [if_neg c] at h
      by_cases d : a < b
      · rw [if_pos d] at h
        obtain ⟨q1, q2, q3, q4⟩ := div_step ha d
        rcases List.mem_cons.mp h with z | z
        · rw [z]; exact q1
        · exact stp_pos f a _ ha (by omega) x z
      · rw [if_neg d] at h
        obtain ⟨q1, q2, q3, q4⟩ := div_step hb (show b < a by omega)
        rcases List.mem_cons.mp h with z | z
        · rw [z]; exact q1
        · exact stp_pos f _ b (by omega) hb x z
theorem stp_pw : ∀ (f a b : Nat), a + b ≤ f → 1 ≤ a → 1 ≤ b → Nat.gcd a b = 1 → (pw (plainN (stp f a b))).a = a ∧ (pw (plainN (stp f a b))).b = b
  | 0, a, b, h, ha, hb, _ => by omega
  | f + 1, a, b, h, ha, hb, hg => by
    rw [stp]
    by_cases c : a = b
    · rw [if_pos c]
      rw [c, Nat.gcd_self] at hg
      rw [c, hg]
      exact ⟨rfl, rfl⟩
    · rw [if_neg c]
      by_cases d : a < b
      · rw [if_pos d]
        obtain ⟨q1, q2, q3, q4⟩ := div_step ha d
        obtain ⟨i1, i2⟩ := stp_pw f a (b - (b - 1) / a * a) (by omega) ha (by omega) (by rw [gcd_step q2]; exact hg)
        obtain ⟨u1, u2⟩ := plain_up (true, (b - 1) / a) q1 (stp f a (b - (b - 1) / a * a))
        rw [u1, u2, i1, i2]
        refine ⟨rfl, ?_⟩
        exact q4
      · rw [if_neg d]
        obtain ⟨q1, q2, q3, q4⟩ := div_step hb (show b < a by omega)
        obtain ⟨i1, i2⟩ := stp_pw f (a - (a - 1) / b * b) b (by omega) (by omega) hb (by rw [Nat.gcd_comm, gcd_step q2, Nat.gcd_comm]; exact hg)
        obtain ⟨u1, u2⟩ := plain_up (false, (a - 1) / b) q1 (stp f (a - (a - 1) / b * b) b)
        rw [u1, u2, i1, i2]
        exact ⟨q4, rfl⟩
/-- the sum of all weights of the buttons *--/
def sumW : Shp → List Nat → Nat
  | (_, s) :: r, w :: ws => w * s + sumW r ws
  | _, _ => 0
theorem pw_sum : ∀ {L : Shp}, Ok L → sumW L (pw L).ws + 1 = (pw L).a + (pw L).b
  | [], h => absurd rfl h.ne
  | [(k, s)], h => by
    obtain ⟨h1, h2, h3⟩ := h.lev _ List.mem_cons_self
    dsimp only at h1 h2 h3
    rw [pw, pwIn]
    dsimp only [sumW]
    omega
  | (k, s) :: y :: r, h => by
    obtain ⟨h1, h2, h3⟩ := h.lev _ List.mem_cons_self
    dsimp only at h1 h2 h3
    have ih := pw_sum h.tail
    rw [pw, pwUp]
    dsimp only [sumW]
    generalize pw (y :: r) = p at ih
    generalize wgt k s p.a p.b = v
    have e1 : (k - 1) * v + (s + 1 - k) * v = s * v := by rw [← Nat.add_mul]; congr 1; omega
    have e2 : v * s = s * v := Nat.mul_comm _ _
    omega

/-! ### steps and signs, as mathematics *--/
theorem stp_log : ∀ (f a b : Nat), 1 ≤ a → 1 ≤ b → 2 ^ (stp f a b).length ≤ a * b
  | 0, a, b, ha, hb => Nat.mul_pos ha hb
  | f + 1, a, b, ha, hb => by
    rw [stp]
    by_cases c : a = b
    · rw [if_pos c]
      exact Nat.mul_pos ha hb
    · rw [if_neg c]
      by_cases d : a < b
      · rw [if_pos d, List.length_cons, Nat.pow_succ]
        obtain ⟨q1, q2, q3, q4⟩ := div_step ha d
        have ih := stp_log f a (b - (b - 1) / a * a) ha (by omega)
        have h1 := Nat.mul_le_mul_right a q1
        have h2 : (b - (b - 1) / a * a) * 2 ≤ b := by omega
        have h3 := Nat.mul_le_mul_left a h2
        rw [← Nat.mul_assoc] at h3
        omega
      · rw [if_neg d, List.length_cons, Nat.pow_succ]
        obtain ⟨q1, q2, q3, q4⟩ := div_step hb (show b < a by omega)
        have ih := stp_log f (a - (a - 1) / b * b) b (by omega) hb
        have h1 := Nat.mul_le_mul_right b q1
        have h2 : (a - (a - 1) / b * b) * 2 ≤ a := by omega
        have h3 := Nat.mul_le_mul_right b h2
        rw [Nat.mul_assoc, Nat.mul_comm 2 b, ← Nat.mul_assoc] at h3
        omega
theorem pow_inj_le {n : Nat} (h : 2 ^ n ≤ 10 ^ 18) : n < 60 := by
  refine Nat.lt_of_not_le fun z => ?_
  have h1 : 2 ^ 60 ≤ 2 ^ n := Nat.pow_le_pow_right (by decide) z
  have h2 : (10 : Nat) ^ 18 < 2 ^ 60 := by decide
  omega
theorem stp_len {f a b : Nat} (ha : 1 ≤ a) (hb : 1 ≤ b) (h1 : a ≤ 10 ^ 9) (h2 : b ≤ 10 ^ 9) : (stp f a b).length < 60 := by
  refine pow_inj_le (Nat.le_trans (stp_log f a b ha hb) ?_)
  exact Nat.le_trans (Nat.mul_le_mul h1 h2) (by decide)
/-- neighbours have unlike signs *--/
def Alt (S : Stp) : Prop := ∀ i u v, S[i]? = some u → S[i + 1]? = some v → u.1 ≠ v.1
theorem Alt.tail {x : Bool × Nat} {r : Stp} (h : Alt (x :: r)) : Alt r := fun i u v h1 h2 => h (i + 1) u v (by simpa using h1) (by simpa using h2)
theorem Alt.head {x y : Bool × Nat} {r : Stp} (h : Alt (x :: y :: r)) : x.1 ≠ y.1 := h 0 x y rfl rfl
theorem Alt.cons {x : Bool × Nat} {r : Stp} (h : Alt r) (hx : ∀ y s, r = y :: s → x.1 ≠ y.1) : Alt (x :: r) := fun i u v h1 h2 => by
  cases i with
  | zero =>
    cases r with
    | nil => simp at h2
    | cons y s =>
      simp at h1 h2
      subst h1
      subst h2
      exact hx y s rfl
  | succ i => exact h i u v (by simpa using h1) (by simpa using h2)
theorem Alt.nil : Alt [] := fun i u v h => by simp at h
theorem stp_head : ∀ (f a b : Nat) (x : Bool × Nat) (r : Stp), stp f a b = x :: r → (x.1 = true → a < b) ∧ (x.1 = false → b < a)
  | 0, a, b, x, r, h => nomatch h
  | f + 1, a, b, x, r, h => by
    rw [stp] at h
    by_cases c : a = b
    · rw [if_pos c] at h
      cases h
    · rw [if_neg c] at h
      by_cases d : a < b
      · rw [if_pos d] at h
        cases h
        exact ⟨fun _ => d, fun z => nomatch z⟩
      · rw [if_neg d] at h
        cases h
        exact ⟨fun z => (nomatch z), fun _ => by omega⟩
theorem stp_alt : ∀ (f a b : Nat), 1 ≤ a → 1 ≤ b → Alt (stp f a b)
  | 0, _, _, _, _ => Alt.nil
  | f + 1, a, b, ha, hb => by
    rw [stp]
    by_cases c : a = b
    · rw [if_pos c]
      exact Alt.nil
    · rw [if_neg c]
      by_cases d : a < b
      · rw [if_pos d]
        obtain ⟨q1, q2, q3, q4⟩ := div_step ha d
        refine (stp_alt f a _ ha (by omega)).cons fun y s e z => ?_
        have := (stp_head _ _ _ _ _ e).1 z.symm
        omega
      · rw [if_neg d]
        obtain ⟨q1, q2, q3, q4⟩ := div_step hb (show b < a by omega)
        refine (stp_alt f _ b (by omega) hb).cons fun y s e z => ?_
        have := (stp_head _ _ _ _ _ e).2 z.symm
        omega
/-- steps lead back to what was stepped together *--/
theorem pw_stp : ∀ (S : Stp), Alt S → (∀ x ∈ S, 1 ≤ x.2) → ∀ f, (pw (plainN S)).a + (pw (plainN S)).b ≤ f → stp f (pw (plainN S)).a (pw (plainN S)).b = S
  | [], _, _, f, hf => by
    cases f with
    | zero => rfl
    | succ f => rfl
  | x :: r, ha, hp, f, hf => by
    obtain ⟨u1, u2⟩ := plain_up x (hp x List.mem_cons_self) r
    have hx := hp x List.mem_cons_self
    have hp' : ∀ y ∈ r, 1 ≤ y.2 := fun y hy => hp y (List.mem_cons_of_mem _ hy)
    obtain ⟨p1, p2⟩ := pw_pos (plain_ok r hp')
    have ih := pw_stp r ha.tail hp'
    obtain ⟨g, rfl⟩ : ∃ g, f = g + 1 := ⟨f - 1, by have := pw_pos (plain_ok (x :: r) hp); omega⟩
    have side : (x.1 = true → (pw (plainN r)).b ≤ (pw (plainN r)).a) ∧ (x.1 = false → (pw (plainN r)).a ≤ (pw (plainN r)).b) := by
      cases r with
      | nil => exact ⟨fun _ => Nat.le_refl _, fun _ => Nat.le_refl _⟩
      | cons y s =>
        have hn := ha.head
        have hy := hp' y List.mem_cons_self
        obtain ⟨v1, v2⟩ := plain_up y hy s
        rw [v1, v2]
        have m1 := Nat.mul_le_mul_right (pw (plainN s)).a hy
        have m2 := Nat.mul_le_mul_right (pw (plainN s)).b hy
        cases hy1 : y.1 with
        | true =>
          rw [hy1] at hn
          refine ⟨fun z => absurd z hn, fun _ => ?_⟩
          simp only [if_true]
          omega
        | false =>
          rw [hy1] at hn
          refine ⟨fun _ => ?_, fun z => absurd z hn⟩
          simp only [Bool.false_eq_true, if_false]
          omega
    obtain ⟨bo, q⟩ := x
    dsimp only at hx side u1 u2
    rw [u1, u2] at hf ⊢
    cases bo with
    | true =>
      simp only [if_true] at hf ⊢
      have hle := side.1 rfl
      have m1 := Nat.mul_le_mul_right (pw (plainN r)).a hx
      rw [stp, if_neg (by omega), if_pos (by omega)]
      have hq : ((pw (plainN r)).b + q * (pw (plainN r)).a - 1) / (pw (plainN r)).a = q := by
        rw [show (pw (plainN r)).b + q * (pw (plainN r)).a - 1 = ((pw (plainN r)).b - 1) + q * (pw (plainN r)).a by omega, Nat.add_mul_div_right _ _ (by omega), Nat.div_eq_of_lt (by omega)]
        omega
      rw [hq, Nat.add_sub_cancel, ih g (by omega)]
    | false =>
      simp only [Bool.false_eq_true, if_false] at hf ⊢
      have hle := side.2 rfl
      have m1 := Nat.mul_le_mul_right (pw (plainN r)).b hx
      rw [stp, if_neg (by omega), if_neg (by omega)]
      have hq : ((pw (plainN r)).a + q * (pw (plainN r)).b - 1) / (pw (plainN r)).b = q := by
        rw [show (pw (plainN r)).a + q * (pw (plainN r)).b - 1 = ((pw (plainN r)).a - 1) + q * (pw (plainN r)).b by omega, Nat.add_mul_div_right _ _ (by omega), Nat.div_eq_of_lt (by omega)]
        omega
      rw [hq, Nat.add_sub_cancel, ih g (by omega)]
/-! runs of signs *--/
def rstep (R : Shp) (y : Nat) : Shp := match R.getLast? with
  | some x => if x.1 = y then R.dropLast ++ [(y, x.2 + 1)] else R ++ [(y, 1)]
  | none => R ++ [(y, 1)]
def rle (xs : List Nat) : Shp := xs.foldl rstep []
theorem rstep_hit {R : Shp} {y m : Nat} : rstep (R ++ [(y, m)]) y = R ++ [(y, m + 1)] := by
  unfold rstep
  simp
theorem rstep_new {R : Shp} {y : Nat} (h : ∀ R0 m, R ≠ R0 ++ [(y, m)]) : rstep R y = R ++ [(y, 1)] := by
  rcases List.eq_nil_or_concat R with z | ⟨R0, x, z⟩
  · rw [z]; rfl
  · rw [List.concat_eq_append] at z
    subst z
    unfold rstep
    rw [show (R0 ++ [x]).getLast? = some x by simp]
    dsimp only
    rw [if_neg]
    intro e
    exact h R0 x.2 (by rw [← e])
structure RleOk (R : Shp) (i : Nat) : Prop where
  pos : ∀ x ∈ R, 1 ≤ x.2
  sum : (R.map Prod.snd).sum = i
  alt : ∀ j u v, R[j]? = some u → R[j + 1]? = some v → u.1 ≠ v.1
theorem RleOk.step {R : Shp} {i : Nat} (h : RleOk R i) (y : Nat) : RleOk (rstep R y) (i + 1) := by
  by_cases c : ∃ R0 m, R = R0 ++ [(y, m)]
  · obtain ⟨R0, m, rfl⟩ := c
    rw [rstep_hit]
    refine ⟨fun x hx => ?_, ?_, fun j u v h1 h2 => ?_⟩
    · rcases List.mem_append.mp hx with z | z
      · exact h.pos x (List.mem_append_left _ z)
      · rw [List.mem_singleton.mp z]
        show 1 ≤ m + 1
        omega
    · have := h.sum
      rw [List.map_append, List.sum_append] at this ⊢
      simp at this ⊢
      omega
    · have hl : j + 1 < (R0 ++ [(y, m + 1)]).length := (List.getElem?_eq_some_iff.mp h2).1
      rw [List.length_append, List.length_singleton] at hl
      have h1' : (R0 ++ [(y, m)])[j]? = some u := by
        rw [List.getElem?_append_left (by omega)] at h1 ⊢
        exact h1
      by_cases d : j + 1 < R0.length
      · refine h.alt j u v h1' ?_
        rw [List.getElem?_append_left d] at h2 ⊢
        exact h2
      · rw [List.getElem?_append_right (by omega), show j + 1 - R0.length = 0 by omega] at h2
        simp at h2
        rw [← h2]
        have := h.alt j u (y, m) h1' (by rw [List.getElem?_append_right (by omega), show j + 1 - R0.length = 0 by omega]; rfl)
        exact this
  · rw [rstep_new fun R0 m e => c ⟨R0, m, e⟩]
    refine ⟨fun x hx => ?_, ?_, fun j u v h1 h2 => ?_⟩
    · rcases List.mem_append.mp hx with z | z
      · exact h.pos x z
      · rw [List.mem_singleton.mp z]
        exact Nat.le_refl _
    · rw [List.map_append, List.sum_append, h.sum]
      rfl
    · have hl : j + 1 < (R ++ [(y, 1)]).length := (List.getElem?_eq_some_iff.mp h2).1
      rw [List.length_append, List.length_singleton] at hl
      rw [List.getElem?_append_left (by omega)] at h1
      by_cases d : j + 1 < R.length
      · rw [List.getElem?_append_left d] at h2
        exact h.alt j u v h1 h2
      · rw [List.getElem?_append_right (by omega), show j + 1 - R.length = 0 by omega] at h2
        simp at h2
        rw [← h2]
        intro e
        refine c ⟨R.dropLast, u.2, ?_⟩
        have hne : R ≠ [] := fun z => by rw [z] at h1; simp at h1
        have hlast : R.getLast hne = u := by
          rw [List.getLast_eq_getElem]
          obtain ⟨h3, h4⟩ := List.getElem?_eq_some_iff.mp h1
          rw [← h4]
          congr 1
          omega
        have := List.dropLast_concat_getLast hne
        rw [hlast] at this
        rw [show ((y, u.2) : Nat × Nat) = u from Prod.ext e.symm rfl]
        exact this.symm
theorem rle_go : ∀ (xs : List Nat) (R : Shp) (i : Nat), RleOk R i → RleOk (xs.foldl rstep R) (i + xs.length)
  | [], R, i, h => h
  | y :: xs, R, i, h => by
    have := rle_go xs _ _ (h.step y)
    rw [List.foldl_cons, List.length_cons]
    rwa [show i + 1 + xs.length = i + (xs.length + 1) by omega] at this
theorem rle_ok (xs : List Nat) : RleOk (rle xs) xs.length := by
  have := rle_go xs [] 0 ⟨fun x h => (nomatch h), rfl, fun j u v h => by simp at h⟩
  rwa [Nat.zero_add] at this
theorem rle_low : ∀ (xs : List Nat) (R : Shp), (∀ x ∈ R, x.1 ≤ 1) → (∀ x ∈ xs, x ≤ 1) → ∀ x ∈ xs.foldl rstep R, x.1 ≤ 1
  | [], R, h, _ => h
  | y :: xs, R, h, hx => by
    refine rle_low xs (rstep R y) (fun x hx' => ?_) fun x hx' => hx x (List.mem_cons_of_mem _ hx')
    have hy := hx y List.mem_cons_self
    by_cases c : ∃ R0 m, R = R0 ++ [(y, m)]
    · obtain ⟨R0, m, rfl⟩ := c
      rw [rstep_hit] at hx'
      rcases List.mem_append.mp hx' with z | z
      · exact h x (List.mem_append_left _ z)
      · rw [List.mem_singleton.mp z]; exact hy
    · rw [rstep_new fun R0 m e => c ⟨R0, m, e⟩] at hx'
      rcases List.mem_append.mp hx' with z | z
      · exact h x z
      · rw [List.mem_singleton.mp z]; exact hy
def stpOf (R : Shp) : Stp := R.map fun x => (x.1 == 0, x.2)
theorem stpOf_alt {R : Shp} (h : ∀ j u v, R[j]? = some u → R[j + 1]? = some v → u.1 ≠ v.1) (hl : ∀ x ∈ R, x.1 ≤ 1) : Alt (stpOf R) := fun i u v h1 h2 => by
  unfold stpOf at h1 h2
  rw [List.getElem?_map] at h1 h2
  obtain ⟨x, hx, rfl⟩ := Option.map_eq_some_iff.mp h1
  obtain ⟨y, hy, rfl⟩ := Option.map_eq_some_iff.mp h2
  have n := h i x y hx hy
  have l1 := hl x (List.mem_of_getElem? hx)
  have l2 := hl y (List.mem_of_getElem? hy)
  intro e
  have e' : (x.1 == 0) = (y.1 == 0) := e
  rw [Bool.eq_iff_iff, beq_iff_eq, beq_iff_eq] at e'
  omega
theorem stpOf_pos {R : Shp} (h : ∀ x ∈ R, 1 ≤ x.2) : ∀ x ∈ stpOf R, 1 ≤ x.2 := fun x hx => by
  obtain ⟨y, hy, rfl⟩ := List.mem_map.mp hx
  exact h y hy
theorem stpOf_sum (R : Shp) : ((stpOf R).map Prod.snd).sum = (R.map Prod.snd).sum := by
  unfold stpOf
  rw [List.map_map]
  rfl
/-! signs one by one *--/
def obo : Nat → Nat → Nat → List Nat
  | 0, _, _ => []
  | f + 1, a, b => if a = b then [] else if a < b then 0 :: obo f a (b - a) else 1 :: obo f (a - b) b
def sgn (b : Bool) : Nat := if b = true then 0 else 1
def expand (S : Stp) : List Nat := S.flatMap fun x => List.replicate x.2 (sgn x.1)
theorem obo_run0 : ∀ (q a b f : Nat), 1 ≤ a → q * a < b → b ≤ f → obo f a b = List.replicate q 0 ++ obo (f - q) a (b - q * a)
  | 0, a, b, f, _, _, _ => by rw [Nat.zero_mul, Nat.sub_zero, Nat.sub_zero]; rfl
  | q + 1, a, b, f, ha, h, hf => by
    rw [Nat.add_mul, Nat.one_mul] at h
    obtain ⟨g, rfl⟩ : ∃ g, f = g + 1 := ⟨f - 1, by omega⟩
    rw [obo, if_neg (by omega), if_pos (by omega), obo_run0 q a (b - a) g ha (by omega) (by omega), List.replicate_succ, List.cons_append]
    congr 2
    rw [Nat.add_mul, Nat.one_mul, show g + 1 - (q + 1) = g - q by omega, show b - a - q * a = b - (q * a + a) by omega]
theorem obo_run1 : ∀ (q a b f : Nat), 1 ≤ b → q * b < a → a ≤ f → obo f a b = List.replicate q 1 ++ obo (f - q) (a - q * b) b
  | 0, a, b, f, _, _, _ => by rw [Nat.zero_mul, Nat.sub_zero, Nat.sub_zero]; rfl
  | q + 1, a, b, f, ha, h, hf => by
    rw [Nat.add_mul, Nat.one_mul] at h
    obtain ⟨g, rfl⟩ : ∃ g, f = g + 1 := ⟨f - 1, by omega⟩
    rw [obo, if_neg (by omega), if_neg (by omega), obo_run1 q (a - b) b g ha (by omega) (by omega), List.replicate_succ, List.cons_append]
    congr 2
    rw [Nat.add_mul, Nat.one_mul, show g + 1 - (q + 1) = g - q by omega, show a - b - q * b = a - (q * b + b) by omega]
theorem obo_any : ∀ (f g a b : Nat), 1 ≤ a → 1 ≤ b → a + b ≤ f → a + b ≤ g → obo f a b = obo g a b
  | 0, g, a, b, ha, hb, h1, h2 => by omega
  | f + 1, g, a, b, ha, hb, h1, h2 => by
    obtain ⟨g, rfl⟩ : ∃ k, g = k + 1 := ⟨g - 1, by omega⟩
    rw [obo, obo]
    by_cases c : a = b
    · rw [if_pos c, if_pos c]
    · rw [if_neg c, if_neg c]
      by_cases d : a < b
      · rw [if_pos d, if_pos d, obo_any f g a (b - a) ha (by omega) (by omega) (by omega)]
      · rw [if_neg d, if_neg d, obo_any f g (a - b) b (by omega) hb (by omega) (by omega)]
theorem obo_stp : ∀ (f a b g : Nat), 1 ≤ a → 1 ≤ b → a + b ≤ f → a + b ≤ g → obo g a b = expand (stp f a b)
  | 0, a, b, g, ha, hb, h1, h2 => by omega
  | f + 1, a, b, g, ha, hb, h1, h2 => by
    rw [stp]
    by_cases c : a = b
    · rw [if_pos c]
      obtain ⟨g, rfl⟩ : ∃ k, g = k + 1 := ⟨g - 1, by omega⟩
      rw [obo, if_pos c]
      rfl
    · rw [if_neg c]
      by_cases d : a < b
      · rw [if_pos d]
        obtain ⟨q1, q2, q3, q4⟩ := div_step ha d
        have m := Nat.mul_le_mul_left ((b - 1) / a) ha
        rw [obo_run0 _ a b g ha q2 (by omega)]
        show _ = List.replicate ((b - 1) / a) 0 ++ expand _
        rw [obo_stp f a (b - (b - 1) / a * a) (g - (b - 1) / a) ha (by omega) (by omega) (by omega)]
      · rw [if_neg d]
        obtain ⟨q1, q2, q3, q4⟩ := div_step hb (show b < a by omega)
        have m := Nat.mul_le_mul_left ((a - 1) / b) hb
        rw [obo_run1 _ a b g hb q2 (by omega)]
        show _ = List.replicate ((a - 1) / b) 1 ++ expand _
        rw [obo_stp f (a - (a - 1) / b * b) b (g - (a - 1) / b) (by omega) hb (by omega) (by omega)]
theorem rle_rep : ∀ (m : Nat) (R : Shp) (y n : Nat), (List.replicate m y).foldl rstep (R ++ [(y, n)]) = R ++ [(y, n + m)]
  | 0, R, y, n => rfl
  | m + 1, R, y, n => by
    rw [List.replicate_succ, List.foldl_cons, rstep_hit, rle_rep m, show n + 1 + m = n + (m + 1) by omega]
theorem rle_expand : ∀ (S : Stp) (R : Shp), Alt S → (∀ x ∈ S, 1 ≤ x.2) → (∀ x r, S = x :: r → ∀ R0 m, R ≠ R0 ++ [(sgn x.1, m)]) → (expand S).foldl rstep R = R ++ S.map fun x => (sgn x.1, x.2)
  | [], R, _, _, _ => by rw [List.map_nil, List.append_nil]; rfl
  | x :: r, R, ha, hp, hn => by
    have hx := hp x List.mem_cons_self
    show (List.replicate x.2 (sgn x.1) ++ expand r).foldl rstep R = _
    obtain ⟨m, hm⟩ : ∃ m, x.2 = m + 1 := ⟨x.2 - 1, by omega⟩
    rw [List.foldl_append, hm, List.replicate_succ, List.foldl_cons, rstep_new (hn x r rfl), rle_rep, show 1 + m = x.2 by omega, rle_expand r _ ha.tail (fun y hy => hp y (List.mem_cons_of_mem _ hy)) ?_, List.map_cons, List.append_assoc]
    · rfl
    · rintro y s rfl R0 n e
      have := List.append_inj_right' e rfl
      have h2 : sgn x.1 = sgn y.1 := by
        have := (List.cons.inj this).1
        exact (Prod.mk.inj this).1
      have := ha.head
      revert h2 this
      cases x.1 <;> cases y.1 <;> simp [sgn]
theorem stpOf_back (S : Stp) : stpOf (S.map fun x => (sgn x.1, x.2)) = S := by
  unfold stpOf
  rw [List.map_map]
  conv => rhs; rw [← List.map_id S]
  refine List.map_congr_left fun x _ => ?_
  obtain ⟨b, q⟩ := x
  cases b <;> rfl
theorem rle_obo {a b g f : Nat} (ha : 1 ≤ a) (hb : 1 ≤ b) (hg : a + b ≤ g) (hf : a + b ≤ f) : stpOf (rle (obo g a b)) = stp f a b := by
  unfold rle
  rw [obo_stp f a b g ha hb hf hg, rle_expand _ [] (stp_alt f a b ha hb) (stp_pos f a b ha hb) (fun x r _ R0 m z => by simp at z), List.nil_append, stpOf_back]
theorem obo_len : ∀ (f a b : Nat), 1 ≤ a → 1 ≤ b → (obo f a b).length < a + b
  | 0, a, b, ha, hb => by rw [obo]; simp; omega
  | f + 1, a, b, ha, hb => by
    rw [obo]
    by_cases c : a = b
    · rw [if_pos c]; simp; omega
    · rw [if_neg c]
      by_cases d : a < b
      · rw [if_pos d, List.length_cons]
        have := obo_len f a (b - a) ha (by omega)
        omega
      · rw [if_neg d, List.length_cons]
        have := obo_len f (a - b) b (by omega) hb
        omega
/-- the greatest weight of a plain shape is the lesser item *--/
def mxW (r : List Nat) : Nat := r.foldr max 0
theorem plain_mx : ∀ S : Stp, (∀ x ∈ S, 1 ≤ x.2) → mxW (pw (plainN S)).ws = min (pw (plainN S)).a (pw (plainN S)).b
  | [], _ => rfl
  | [x], h => by
    have hx := h x List.mem_cons_self
    obtain ⟨b, q⟩ := x
    cases b
    · simp [plainN, levN, pw, pwIn, mxW]
    · simp [plainN, levN, pw, pwIn, mxW]
  | x :: y :: r, h => by
    have hx := h x List.mem_cons_self
    have h' : ∀ z ∈ y :: r, 1 ≤ z.2 := fun z hz => h z (List.mem_cons_of_mem _ hz)
    have ih := plain_mx (y :: r) h'
    obtain ⟨p1, p2⟩ := pw_pos (plain_ok (y :: r) h')
    obtain ⟨b, q⟩ := x
    dsimp only at hx
    rw [plainN, pw_cons (plainN_ne _)]
    generalize pw (plainN (y :: r)) = p at ih p1 p2
    have m1 := Nat.mul_le_mul_right p.a hx
    have m2 := Nat.mul_le_mul_right p.b hx
    cases b
    · have hw : wgt (q + 1) q p.a p.b = p.b := wgt_all (by omega) (by omega)
      simp only [levN, pwUp, Bool.false_eq_true, if_false, hw, mxW, List.foldr_cons]
      rw [show p.ws.foldr max 0 = mxW p.ws from rfl, ih]
      rw [show q + 1 - 1 = q by omega, show q + 1 - (q + 1) = 0 by omega, Nat.zero_mul]
      omega
    · have hw : wgt 1 q p.a p.b = p.a := wgt_one rfl
      simp only [levN, pwUp, if_true, hw, mxW, List.foldr_cons]
      rw [show p.ws.foldr max 0 = mxW p.ws from rfl, ih]
      rw [show q + 1 - 1 = q by omega, Nat.sub_self, Nat.zero_mul]
      omega

/-! ### rows of signs, as mathematics *--/
def bitsM (m v : Nat) : List Nat := (List.range m).map fun j => v / 2 ^ (m - 1 - j) % 2
theorem bits_len (m v : Nat) : (bitsM m v).length = m := by rw [bitsM, List.length_map, List.length_range]
theorem bits_succ (m v : Nat) : bitsM (m + 1) v = (v / 2 ^ m % 2) :: bitsM m v := by
  unfold bitsM
  rw [List.range_succ_eq_map, List.map_cons, List.map_map]
  have e : (List.range m).map ((fun j => v / 2 ^ (m + 1 - 1 - j) % 2) ∘ Nat.succ) = (List.range m).map fun j => v / 2 ^ (m - 1 - j) % 2 := List.map_congr_left fun j hj => by
    show v / 2 ^ (m + 1 - 1 - (j + 1)) % 2 = _
    rw [show m + 1 - 1 - (j + 1) = m - 1 - j by omega]
  rw [e, show m + 1 - 1 - 0 = m by omega]
theorem bits_low (m v : Nat) : ∀ x ∈ bitsM m v, x ≤ 1 := fun x hx => by
  obtain ⟨j, _, rfl⟩ := List.mem_map.mp hx
  show v / 2 ^ (m - 1 - j) % 2 ≤ 1
  omega
theorem bits_mod : ∀ (m k v : Nat), m ≤ k → bitsM m (v % 2 ^ k) = bitsM m v
  | 0, _, _, _ => rfl
  | m + 1, k, v, h => by
    rw [bits_succ, bits_succ, bits_mod m k v (by omega)]
    congr 1
    have e : v % 2 ^ k / 2 ^ m % 2 = v / 2 ^ m % 2 := by
      have h1 : (v % 2 ^ k).testBit m = v.testBit m := by rw [Nat.testBit_mod_two_pow, decide_eq_true (show m < k by omega), Bool.true_and]
      rw [Nat.testBit_eq_decide_div_mod_eq, Nat.testBit_eq_decide_div_mod_eq] at h1
      have := decide_eq_decide.mp h1
      omega
    exact e
theorem bits_get {m v i : Nat} (h : i < m) : (bitsM m v)[i]? = some (v / 2 ^ (m - 1 - i) % 2) := by
  unfold bitsM
  rw [List.getElem?_map, List.getElem?_range h]
  rfl
def valA (acc : Nat) (xs : List Nat) : Nat := xs.foldl (fun a s => 2 * a + s) acc
theorem val_bits : ∀ (m v acc : Nat), valA acc (bitsM m v) = acc * 2 ^ m + v % 2 ^ m
  | 0, v, acc => by show acc = acc * 1 + v % 1; omega
  | m + 1, v, acc => by
    rw [bits_succ]
    show valA (2 * acc + v / 2 ^ m % 2) (bitsM m v) = _
    rw [val_bits m, Nat.mod_pow_succ, Nat.pow_succ]
    have : (2 * acc + v / 2 ^ m % 2) * 2 ^ m = acc * (2 ^ m * 2) + 2 ^ m * (v / 2 ^ m % 2) := by
      rw [Nat.add_mul, Nat.mul_comm (v / 2 ^ m % 2), Nat.mul_comm 2 acc, Nat.mul_assoc, Nat.mul_comm 2 (2 ^ m)]
    omega
def spr : List Nat → Nat × Nat
  | [] => (1, 1)
  | s :: r => if s = 0 then ((spr r).1, (spr r).2 + (spr r).1) else ((spr r).1 + (spr r).2, (spr r).2)
theorem spr_pos : ∀ r, 1 ≤ (spr r).1 ∧ 1 ≤ (spr r).2
  | [] => ⟨Nat.le_refl _, Nat.le_refl _⟩
  | s :: r => by
    have := spr_pos r
    rw [spr]
    split <;> dsimp only <;> omega
theorem spr_rep0 : ∀ (q : Nat) (r : List Nat), spr (List.replicate q 0 ++ r) = ((spr r).1, (spr r).2 + q * (spr r).1)
  | 0, r => by rw [Nat.zero_mul]; rfl
  | q + 1, r => by
    rw [List.replicate_succ, List.cons_append, spr, if_pos rfl, spr_rep0 q r]
    rw [Nat.add_mul, Nat.one_mul, Nat.add_assoc]
theorem spr_rep1 : ∀ (q : Nat) (r : List Nat), spr (List.replicate q 1 ++ r) = ((spr r).1 + q * (spr r).2, (spr r).2)
  | 0, r => by rw [Nat.zero_mul]; rfl
  | q + 1, r => by
    rw [List.replicate_succ, List.cons_append, spr, if_neg (by decide), spr_rep1 q r]
    dsimp only
    rw [Nat.add_mul, Nat.one_mul, Nat.add_assoc]
theorem spr_expand : ∀ S : Stp, (∀ x ∈ S, 1 ≤ x.2) → (pw (plainN S)).a = (spr (expand S)).1 ∧ (pw (plainN S)).b = (spr (expand S)).2
  | [], _ => ⟨rfl, rfl⟩
  | x :: r, h => by
    obtain ⟨u1, u2⟩ := plain_up x (h x List.mem_cons_self) r
    obtain ⟨i1, i2⟩ := spr_expand r fun y hy => h y (List.mem_cons_of_mem _ hy)
    rw [u1, u2, i1, i2]
    obtain ⟨b, q⟩ := x
    show _ = (spr (List.replicate q (sgn b) ++ expand r)).1 ∧ _ = (spr (List.replicate q (sgn b) ++ expand r)).2
    cases b with
    | true =>
      rw [show sgn true = 0 from rfl, spr_rep0]
      exact ⟨rfl, rfl⟩
    | false =>
      rw [show sgn false = 1 from rfl, spr_rep1]
      exact ⟨rfl, rfl⟩
theorem spr_lt : ∀ (m v w : Nat), v < w → w < 2 ^ m → (spr (bitsM m v)).1 * (spr (bitsM m w)).2 < (spr (bitsM m w)).1 * (spr (bitsM m v)).2
  | 0, v, w, h1, h2 => by rw [Nat.pow_zero] at h2; omega
  | m + 1, v, w, h1, h2 => by
    rw [bits_succ, bits_succ]
    rw [Nat.pow_succ] at h2
    obtain ⟨p1, p2⟩ := spr_pos (bitsM m v)
    obtain ⟨p3, p4⟩ := spr_pos (bitsM m w)
    have hp : 0 < 2 ^ m := Nat.two_pow_pos m
    have dv := Nat.div_add_mod v (2 ^ m)
    have dw := Nat.div_add_mod w (2 ^ m)
    have mv := Nat.mod_lt v hp
    have mw := Nat.mod_lt w hp
    have kv : v / 2 ^ m < 2 := Nat.div_lt_of_lt_mul (by omega)
    have kw : w / 2 ^ m < 2 := Nat.div_lt_of_lt_mul (by omega)
    have hle : v / 2 ^ m ≤ w / 2 ^ m := Nat.div_le_div_right (Nat.le_of_lt h1)
    rw [Nat.mod_eq_of_lt kv, Nat.mod_eq_of_lt kw]
    by_cases e : v / 2 ^ m = w / 2 ^ m
    · have ih := spr_lt m (v % 2 ^ m) (w % 2 ^ m) (by rw [e] at dv; omega) mw
      rw [bits_mod m m v (Nat.le_refl _), bits_mod m m w (Nat.le_refl _)] at ih
      rw [e, spr, spr]
      by_cases z : w / 2 ^ m = 0
      · rw [if_pos z, if_pos z]
        dsimp only
        rw [Nat.mul_add, Nat.mul_add, Nat.mul_comm (spr (bitsM m v)).1 (spr (bitsM m w)).1]
        omega
      · rw [if_neg z, if_neg z]
        dsimp only
        rw [Nat.add_mul, Nat.add_mul, Nat.mul_comm (spr (bitsM m v)).2 (spr (bitsM m w)).2]
        omega
    · have z12 : v / 2 ^ m = 0 ∧ w / 2 ^ m = 1 := by
        revert e hle kv kw
        generalize v / 2 ^ m = x
        generalize w / 2 ^ m = y
        intros
        omega
      obtain ⟨z1, z2⟩ := z12
      rw [z1, z2, spr, spr, if_pos rfl, if_neg (by decide)]
      dsimp only
      generalize spr (bitsM m v) = f at p1 p2 ⊢
      generalize spr (bitsM m w) = g at p3 p4 ⊢
      have q1 : (g.1 + g.2) * (f.2 + f.1) = g.1 * f.2 + g.1 * f.1 + (g.2 * f.2 + f.1 * g.2) := by rw [Nat.add_mul, Nat.mul_add, Nat.mul_add, Nat.mul_comm f.1 g.2]
      have q2 : 1 ≤ g.1 * f.2 := Nat.mul_pos p3 p2
      omega
def expR (R : Shp) : List Nat := R.flatMap fun x => List.replicate x.2 x.1
theorem expR_app (A B : Shp) : expR (A ++ B) = expR A ++ expR B := List.flatMap_append
theorem expR_step (R : Shp) (y : Nat) : expR (rstep R y) = expR R ++ [y] := by
  by_cases c : ∃ R0 m, R = R0 ++ [(y, m)]
  · obtain ⟨R0, m, rfl⟩ := c
    rw [rstep_hit, expR_app, expR_app, List.append_assoc]
    congr 1
    show List.replicate (m + 1) y ++ [] = (List.replicate m y ++ []) ++ [y]
    rw [List.append_nil, List.append_nil, List.replicate_succ']
  · rw [rstep_new fun R0 m e => c ⟨R0, m, e⟩, expR_app]
    rfl
theorem expR_go : ∀ (xs : List Nat) (R : Shp), expR (xs.foldl rstep R) = expR R ++ xs
  | [], R => by rw [List.append_nil]; rfl
  | y :: xs, R => by rw [List.foldl_cons, expR_go xs, expR_step, List.append_assoc]; rfl
theorem expand_rle {xs : List Nat} (h : ∀ x ∈ xs, x ≤ 1) : expand (stpOf (rle xs)) = xs := by
  have hl := rle_low xs [] (fun x h => nomatch h) h
  have h1 := expR_go xs []
  rw [show expR [] = [] from rfl, List.nil_append] at h1
  conv => rhs; rw [← h1]
  unfold rle
  generalize xs.foldl rstep [] = R at hl
  unfold expand expR stpOf
  rw [List.flatMap_map]
  induction R with
  | nil => rfl
  | cons x r ih =>
    rw [List.flatMap_cons, List.flatMap_cons, ih fun y hy => hl y (List.mem_cons_of_mem _ hy)]
    congr 1
    have := hl x List.mem_cons_self
    have e : sgn (x.1 == 0) = x.1 := by
      obtain ⟨a, q⟩ := x
      rcases (by dsimp only at this; omega : a = 0 ∨ a = 1) with rfl | rfl <;> rfl
    dsimp only
    rw [e]
/-- the number that a shape's signs make *--/
def numS : Nat → Shp → Nat
  | acc, [] => acc
  | acc, x :: r => numS (valA acc (List.replicate x.2 (if x.1 = 1 then 0 else 1))) r
theorem valA_app (acc : Nat) (xs ys : List Nat) : valA acc (xs ++ ys) = valA (valA acc xs) ys := List.foldl_append
theorem num_plain : ∀ (S : Stp) (acc : Nat), (∀ x ∈ S, 1 ≤ x.2) → numS acc (plainN S) / 2 = valA acc (expand S)
  | [], acc, _ => by
    show (2 * acc + 0) / 2 = acc
    omega
  | [x], acc, h => by
    have hx := h x List.mem_cons_self
    have e : (if (levN x).1 = 1 then 0 else 1) = sgn x.1 := by
      obtain ⟨b, q⟩ := x
      cases b
      · show (if q + 1 = 1 then 0 else 1) = 1
        rw [if_neg (by dsimp only at hx; omega)]
      · rfl
    show valA acc (List.replicate (x.2 + 1) (if (levN x).1 = 1 then 0 else 1)) / 2 = valA acc (List.replicate x.2 (sgn x.1) ++ [])
    rw [e, List.append_nil, List.replicate_succ', valA_app]
    show (2 * valA acc (List.replicate x.2 (sgn x.1)) + sgn x.1) / 2 = _
    have : sgn x.1 ≤ 1 := by cases x.1 <;> simp [sgn]
    omega
  | x :: y :: r, acc, h => by
    have hx := h x List.mem_cons_self
    have e : (if (levN x).1 = 1 then 0 else 1) = sgn x.1 := by
      obtain ⟨b, q⟩ := x
      cases b
      · show (if q + 1 = 1 then 0 else 1) = 1
        rw [if_neg (by dsimp only at hx; omega)]
      · rfl
    rw [plainN]
    show numS (valA acc (List.replicate x.2 (if (levN x).1 = 1 then 0 else 1))) (plainN (y :: r)) / 2 = valA acc (List.replicate x.2 (sgn x.1) ++ expand (y :: r))
    rw [e, num_plain (y :: r) _ fun z hz => h z (List.mem_cons_of_mem _ hz), valA_app]
theorem val_turn : ∀ (xs : List Nat) (acc acc' : Nat), (∀ x ∈ xs, x ≤ 1) → valA acc xs + valA acc' (xs.map fun x => 1 - x) + 1 = (acc + acc' + 1) * 2 ^ xs.length
  | [], acc, acc', _ => by show acc + acc' + 1 = (acc + acc' + 1) * 1; omega
  | y :: xs, acc, acc', h => by
    have hy := h y List.mem_cons_self
    have ih := val_turn xs (2 * acc + y) (2 * acc' + (1 - y)) fun x hx => h x (List.mem_cons_of_mem _ hx)
    show valA (2 * acc + y) xs + valA (2 * acc' + (1 - y)) (xs.map fun x => 1 - x) + 1 = _
    rw [ih, List.length_cons, Nat.pow_succ, show 2 * acc + y + (2 * acc' + (1 - y)) + 1 = (acc + acc' + 1) * 2 by omega, Nat.mul_assoc, Nat.mul_comm 2]

/-! ### numbers of all kinds, counts *--/
/-- a value of a kind: is it a whole number (r)? *--/
def Kd (K : PySem.W.Frag) (H : Hp) (v : V) (r : Bool) : Prop := ∃ (t : String) (b1 b2 : Bool), TyX K H v (.type t) ∧ kitB t "int" = some b1 ∧ kitB t "bool" = some b2 ∧ r = (b1 && !b2)
theorem kd_int {H : Hp} (i : Int) : Kd K H (.int i) true := ⟨"int", true, false, .base (.int i), by decide +kernel, by decide +kernel, rfl⟩
theorem kd_bl {H : Hp} (b : Bool) : Kd K H (.bl b) false := ⟨"bool", true, true, .base (.bl b), by decide +kernel, by decide +kernel, rfl⟩
theorem kd_non {H : Hp} : Kd K H .non false := ⟨"NoneType", false, false, .base .non, by decide +kernel, by decide +kernel, rfl⟩
theorem kd_str {H : Hp} (s : Str) : Kd K H (.str s) false := ⟨"str", false, false, .base (.str s), by decide +kernel, by decide +kernel, rfl⟩
theorem kd_tup {H : Hp} {a : Addr} {xs : List V} (h : H a = some (.tup xs)) : Kd K H (.ref a) false := ⟨"tuple", false, false, .base (.tup h), by decide +kernel, by decide +kernel, rfl⟩
theorem kd_lst {H : Hp} {a : Addr} {xs : List V} (h : H a = some (.lst xs)) : Kd K H (.ref a) false := ⟨"list", false, false, .base (.lst h), by decide +kernel, by decide +kernel, rfl⟩
theorem kd_dK {H : Hp} {a : Addr} {xs : List (Key × V)} (h : H a = some (.dK xs)) : Kd K H (.ref a) false := ⟨"dict", false, false, .base (.dK h), by decide +kernel, by decide +kernel, rfl⟩
def spIsInt (K : PySem.W.Frag) : Sp := fun vs H Q _ => ∃ (v : V) (r : Bool), vs = [v] ∧ Kd K H v r ∧ Q (.bl r) H
theorem ok_is_integer (T : Cd K mg) : FnOk P w K mg base CX0 1 T.a_is_integer T.d_is_integer p_is_integer (spIsInt K) := by
  refine T.F_is_integer.ok sc_is_integer (fun vs H Q E h => ?_) (fun cdv A outer s H vs Q E hr h => ?_)
  · obtain ⟨v, r, rfl, _⟩ := h
    rfl
  obtain ⟨v, r, rfl, ⟨t, b1, b2, ht, h1, h2, rfl⟩, q⟩ := h
  refine ⟨_, (pss_one (ps_ret (pe_and (pe_callB call_isi (by rfl) T.z_isinstance (by decide +kernel) (pa_cons (pv 0) (pa_cons (pe_bltn (v := .ty "int") (u := .type "int") rfl T.z_int (by decide +kernel) rfl) pa_nil))) (pe_one (pe_not (pe_callB call_isi (by rfl) T.z_isinstance (by decide +kernel) (pa_cons (pv 0) (pa_cons (pe_bltn (v := .ty "bool") (u := .type "bool") rfl T.z_bool (by decide +kernel) rfl) pa_nil)))))))), ?_⟩
  refine ⟨_, rfl, _, _, _, _, _, rfl, .ty "int", ht, kit_ty h1, _, rfl, ?_⟩
  cases b1 with
  | false => exact q
  | true => exact ⟨_, rfl, _, _, _, _, _, rfl, .ty "bool", ht, kit_ty h2, _, rfl, q⟩
def spCount : Sp := fun vs H Q _ => ∃ n : Nat, vs = [.int (n : Int)] ∧ 1 ≤ n ∧ n ≤ 30 ∧ Q (.int ((2 ^ (n - 1) : Nat) : Int)) H
theorem ok_plain_count (T : Cd K mg) : FnOk P w K mg base CX0 1 T.a_plain_count T.d_plain_count p_plain_count spCount := by
  refine T.F_plain_count.ok sc_plain_count (fun vs H Q E h => ?_) (fun cdv A outer s H vs Q E hr h => ?_)
  · obtain ⟨n, rfl, _⟩ := h
    rfl
  obtain ⟨n, rfl, h1, h2, q⟩ := h
  refine ⟨_, (pss_one (ps_ret (pe_op op_shl pe_int (pe_op op_sub (pv 0) pe_int)))), ?_⟩
  refine ⟨_, rfl, _, _, rfl, rfl, _, _, rfl, rfl, ⟨by omega, by omega, by decide⟩, ?_⟩
  have e : (1 : Int) * 2 ^ ((n : Int) - 1).toNat = ((2 ^ (n - 1) : Nat) : Int) := by
    rw [show ((n : Int) - 1).toNat = n - 1 by omega, Int.one_mul, Int.natCast_pow]
    rfl
  dsimp only
  rw [e]
  exact q
def spPower : Sp := fun vs H Q _ => ∃ n : Nat, vs = [.int (n : Int)] ∧ n ≤ 30 ∧ Q (.int ((2 ^ n : Nat) : Int)) H
theorem ok__law_power (T : Cd K mg) : FnOk P w K mg base CX0 1 T.a__law_power T.d__law_power p__law_power spPower := by
  have nd : (n__law_power : List Str).Nodup := sc__law_power.nd
  refine T.F__law_power.ok sc__law_power (fun vs H Q E h => ?_) (fun cdv A outer s H vs Q E hr h => ?_)
  · obtain ⟨n, rfl, _⟩ := h
    rfl
  obtain ⟨n, rfl, h2, q⟩ := h
  refine ⟨_, (pss_cons (ps_set (i := 1) nd rfl (Or.inl rfl) pe_int)
      (pss_cons (ps_for PassesOwn.never rfl (pi_range1 rfl T.z_range (pa_cons (pv 0) pa_nil)) (pg_name (i := 2) nd rfl (Or.inl rfl))
        (pss_one (ps_set (i := 1) nd rfl (Or.inl rfl) (pe_op op_mul pe_int (pv 1)))))
      (pss_one (ps_ret (pv 1))))), ?_⟩
  refine seq_cut (fun σ H' => σ = [some (.int (n : Int)), some (.int 1), none] ∧ H = H') (fun N hN => hN _ _ ⟨rfl, rfl⟩) ?_
  rintro σ H0 ⟨rfl, rfl⟩
  refine seq_cut (fun σ H' => ∃ x : Option V, σ = [some (.int (n : Int)), some (.int ((2 ^ n : Nat) : Int)), x] ∧ H = H') (fun N hN => ?_) ?_
  · refine ⟨_, rfl, n, rfl, by omega, by omega, for_range (lo := 0) (n := (n : Int).toNat) (fun i σ H' => ∃ x : Option V, σ = [some (.int (n : Int)), some (.int ((2 ^ i : Nat) : Int)), x] ∧ H = H') ?_ ?_ ?_⟩
    · exact ⟨none, rfl, rfl⟩
    · rintro i σ H1 hi ⟨x, rfl, rfl⟩
      dsimp only [gName]
      refine ⟨_, rfl, _, _, rfl, rfl, .inl ⟨by decide, by decide⟩, some (.int (0 + (i : Nat))), ?_, rfl⟩
      rw [show ((2 ^ (i + 1) : Nat) : Int) = 2 * ((2 ^ i : Nat) : Int) by rw [Nat.pow_succ]; omega]
      rfl
    · rintro σ H1 ⟨x, rfl, rfl⟩
      exact hN _ _ ⟨x, by rw [show (n : Int).toNat = n by omega], rfl⟩
  rintro σ H1 ⟨x, rfl, rfl⟩
  exact ⟨_, rfl, q⟩
def spSigns : Sp := fun vs H Q _ => ∃ v m : Nat, vs = [.int (v : Int), .int (m : Int)] ∧ m ≤ 30 ∧ ∀ (p : Addr) (H' : Hp), Same H H' → H' p = some (.lst (nats (bitsM m v))) → Q (.ref p) H'
theorem ok__law_signs (T : Cd K mg) : FnOk P w K mg base CX0 1 T.a__law_signs T.d__law_signs p__law_signs spSigns := by
  have nd : (n__law_signs : List Str).Nodup := sc__law_signs.nd
  refine T.F__law_signs.ok sc__law_signs (fun vs H Q E h => ?_) (fun cdv A outer s H vs Q E hr h => ?_)
  · obtain ⟨v, m, rfl, _⟩ := h
    rfl
  obtain ⟨v, m, rfl, hm, k⟩ := h
  refine ⟨_, (pss_cons (ps_par (i := 2) (j := 3) (by rfl) nd rfl rfl (by decide) rfl rfl (pa_cons (pe_lst pa_nil) (pa_cons (pv 0) pa_nil)) (by rfl))
      (pss_cons (ps_for PassesOwn.never rfl (pi_range1 rfl T.z_range (pa_cons (pv 1) pa_nil)) (pg_name (i := 4) nd rfl (Or.inl rfl))
        (pss_one (ps_par (i := 2) (j := 3) (by rfl) nd rfl rfl (by decide) rfl rfl (pa_cons (pe_op op_cat (pe_lst (pa_cons (pe_op op_mod (pe_callTy call_int1 (by rfl) T.z_int (by decide +kernel) (pa_cons (pv 3) pa_nil)) pe_int) pa_nil)) (pv 2)) (pa_cons (pe_op op_fdiv (pv 3) pe_int) pa_nil)) (by rfl))))
      (pss_one (ps_ret (pv 2))))), ?_⟩
  refine seq_cut (fun σ H' => ∃ p : Addr, σ = [some (.int (v : Int)), some (.int (m : Int)), some (.ref p), some (.int (v : Int)), none] ∧ Same H H' ∧ H' p = some (.lst [])) (fun N hN => ?_) ?_
  · exact ⟨(by show 0 ≤ sizeLine; decide), fun p hp => ⟨_, rfl, _, _, rfl, hN _ _ ⟨p, rfl, same_upd _ hp, upd_same⟩⟩⟩
  rintro σ H0 ⟨p, rfl, e0, hp0⟩
  refine seq_cut (fun σ H' => ∃ (p : Addr) (x y : Option V), σ = [some (.int (v : Int)), some (.int (m : Int)), some (.ref p), x, y] ∧ Same H H' ∧ H' p = some (.lst (nats (bitsM m v)))) (fun N hN => ?_) ?_
  · refine ⟨_, rfl, m, rfl, by omega, by omega, for_range (lo := 0) (n := (m : Int).toNat) (fun i σ H' => ∃ (p : Addr) (y : Option V), σ = [some (.int (v : Int)), some (.int (m : Int)), some (.ref p), some (.int ((v / 2 ^ i : Nat) : Int)), y] ∧ Same H H' ∧ H' p = some (.lst (nats (bitsM i v)))) ?_ ?_ ?_⟩
    · exact ⟨p, none, by rw [Nat.pow_zero, Nat.div_one], e0, hp0⟩
    · rintro i σ H1 hi ⟨p, y, rfl, e1, hp1⟩
      dsimp only [gName]
      refine ⟨_, rfl, .inl ⟨_, rfl, _, _, rfl, rfl, (by show (0 : Int) < 2; decide), (by show 1 ≤ sizeLine; decide), fun q hq => ⟨_, rfl, ?_⟩⟩⟩
      have e2 := same_upd (.lst [.int (((v / 2 ^ i : Nat) : Int) % 2)]) hq
      refine ⟨q, p, _, _, rfl, rfl, upd_same, e2 _ _ hp1, ?_, fun q2 hq2 => ⟨_, rfl, _, _, rfl, rfl, ⟨by decide, by decide⟩, _, _, rfl, ?_⟩⟩
      · rw [nats_len, bits_len]
        show 1 + i ≤ sizeLine
        exact Nat.le_trans (m := 100) (by omega) (by decide)
      have e3 := e2.trans (same_upd (.lst ([.int (((v / 2 ^ i : Nat) : Int) % 2)] ++ nats (bitsM i v))) hq2)
      refine ⟨q2, some (.int (0 + (i : Nat))), ?_, e1.trans e3, ?_⟩
      · rw [Nat.pow_succ, ← Nat.div_div_eq_div_mul]
        rfl
      · rw [upd_same, bits_succ]
        rfl
    · rintro σ H1 ⟨p, y, rfl, e1, hp1⟩
      rw [show (m : Int).toNat = m by omega] at hp1
      exact hN _ _ ⟨p, _, _, rfl, e1, hp1⟩
  rintro σ H1 ⟨p, x, y, rfl, e1, hp1⟩
  exact ⟨_, rfl, k p H1 e1 hp1⟩

/-! ### steps in the heap *--/
inductive Sts (H : Hp) : List Addr → Stp → Prop
  | nil : Sts H [] []
  | cons {q : Addr} {qs : List Addr} {x : Bool × Nat} {L : Stp} : H q = some (.tup [.bl x.1, .int (x.2 : Int)]) → Sts H qs L → Sts H (q :: qs) (x :: L)
theorem Sts.len {H : Hp} : ∀ {qs : List Addr} {L : Stp}, Sts H qs L → qs.length = L.length
  | _, _, .nil => rfl
  | _, _, .cons _ t => by rw [List.length_cons, List.length_cons, t.len]
theorem Sts.mono {H H' : Hp} : ∀ {qs : List Addr} {L : Stp}, Sts H qs L → (∀ a o, H a = some (.tup o) → H' a = some (.tup o)) → Sts H' qs L
  | _, _, .nil, _ => .nil
  | _, _, .cons h t, k => .cons (k _ _ h) (t.mono k)
theorem Sts.snoc {H : Hp} {q : Addr} {x : Bool × Nat} : ∀ {qs : List Addr} {L : Stp}, Sts H qs L → H q = some (.tup [.bl x.1, .int (x.2 : Int)]) → Sts H (qs ++ [q]) (L ++ [x])
  | _, _, .nil, h => .cons h .nil
  | _, _, .cons h' t, h => .cons h' (t.snoc h)
theorem Sts.get {H : Hp} : ∀ {qs : List Addr} {L : Stp}, Sts H qs L → ∀ {i : Nat} {q : Addr}, qs[i]? = some q → ∃ x, L[i]? = some x ∧ H q = some (.tup [.bl x.1, .int (x.2 : Int)])
  | _, _, .nil, i, q, h => by simp at h
  | _, _, .cons (x := x) h t, 0, q, e => by
    simp at e
    subst e
    exact ⟨x, rfl, h⟩
  | _, _, .cons h t, i + 1, q, e => by
    obtain ⟨x, a, b⟩ := t.get (i := i) (q := q) (by simpa using e)
    exact ⟨x, by simpa using a, b⟩
/-! ### plain shapes *--/
theorem lvs_snoc {H : Hp} {q : Addr} {x : Nat × Nat} : ∀ {qs : List Addr} {L : Shp}, Lvs H qs L → H q = some (.tup [.int (x.1 : Int), .int (x.2 : Int)]) → Lvs H (qs ++ [q]) (L ++ [x])
  | _, _, .nil, h => .cons h .nil
  | _, _, .cons h' t, h => .cons h' (lvs_snoc t h)
def spPlainBy : Sp := fun vs H Q _ => ∃ (p : Addr) (qs : List Addr) (S : Stp), vs = [.ref p] ∧ H p = some (.lst (qs.map V.ref)) ∧ Sts H qs S ∧ S.length ≤ 1500 ∧ ∀ (t : Addr) (H' : Hp), Same H H' → ShAt H' t (plainN S) → Q (.ref t) H'
theorem plainN_snoc : ∀ (S : Stp) (x : Bool × Nat), plainN (S ++ [x]) = S.map levN ++ [((levN x).1, x.2 + 1)]
  | [], x => rfl
  | [y], x => rfl
  | y :: z :: r, x => by
    rw [List.cons_append, List.cons_append, plainN, List.map_cons, List.cons_append]
    exact congrArg _ (plainN_snoc (z :: r) x)
theorem ok_plain_by (T : Cd K mg) : FnOk P w K mg base CX0 1 T.a_plain_by T.d_plain_by p_plain_by spPlainBy := by
  have nd : (n_plain_by : List Str).Nodup := sc_plain_by.nd
  refine T.F_plain_by.ok sc_plain_by (fun vs H Q E h => ?_) (fun cdv A outer s H vs Q E hr h => ?_)
  · obtain ⟨p, qs, S, rfl, _⟩ := h
    rfl
  obtain ⟨p, qs, S, rfl, hp, hq, hl, k⟩ := h
  refine ⟨_, (pss_cons (ps_if (pt_not (pt_truth (pv 0) (by intro _; rfl))) (pss_one (ps_ret (pe_tup (pa_cons (pe_tup (pa_cons pe_int (pa_cons pe_int pa_nil))) pa_nil)))) pss_nil)
      (pss_cons (ps_setLc (i := 1) (own := [("is_one_of", 4), ("quotient", 5)]) rfl nd rfl rfl (sw_true rfl rfl rfl (by decide +kernel)) (pi_list (pv 0)) (blkOk_by (own := [("is_one_of", 4), ("quotient", 5)]) (N := n_plain_by) (sc := defScope s_plain_by) (by decide +kernel)) (fun _ _ _ _ _ => (pg_tupK (K := K) 2 rfl rfl (pgs_cons (pg_name (i := 4) nd rfl (Or.inl rfl) (Or.inr rfl)) (pgs_cons (pg_name (i := 5) nd rfl (Or.inl rfl) (Or.inr rfl)) pgs_nil)))) (fun _ _ _ _ _ => pts_nil) (fun _ _ _ _ _ => (pe_tup (pa_cons (pe_ifExp (pt_val (pv 4)) pe_int (pe_op op_add (pv 5) pe_int)) (pa_cons (pv 5) pa_nil)))))
      (pss_cons (ps_asg (pe_ix ix_list (pv 1) (pe_un un_neg pe_int) (fun _ _ => rfl)) (pg_tup rfl (pgs_cons (pg_name (i := 2) nd rfl (Or.inl rfl)) (pgs_cons (pg_name (i := 3) nd rfl (Or.inl rfl)) pgs_nil))))
      (pss_one (ps_ret (pe_callTy call_tuple_of (by rfl) T.z_tuple (by decide +kernel) (pa_cons (pe_op op_cat (pe_slice sl_list (pv 1) po_none (po_some (pe_un un_neg pe_int))) (pe_lst (pa_cons (pe_tup (pa_cons (pv 2) (pa_cons (pe_op op_add (pv 3) pe_int) pa_nil))) pa_nil))) pa_nil))))))), ?_⟩
  refine seq_cut (fun σ H' => σ = [some (.ref p), none, none, none, none, none] ∧ S ≠ [] ∧ H = H') (fun N hN => ?_) ?_
  · cases hq with
    | nil =>
      refine ⟨_, rfl, false, .inl ⟨[], SqL.of hp, rfl⟩, iteT ⟨(by show 2 ≤ sizeLine; decide), fun q hq => ⟨(by show 1 ≤ sizeLine; decide), fun t ht => ?_⟩⟩⟩
      have e1 := same_upd (.tup [.int 1, .int 1]) hq
      have e2 := same_upd (.tup [.ref q]) ht
      have hq2 := e2 _ _ (show upd H q (.tup [.int 1, .int 1]) q = some (.tup [.int 1, .int 1]) from upd_same)
      exact k t _ (e1.trans e2) ⟨[q], upd_same, .cons hq2 .nil⟩
    | cons h t => exact ⟨_, rfl, true, .inl ⟨_, SqL.of hp, rfl⟩, iteF (hN _ _ ⟨rfl, by simp, rfl⟩)⟩
  rintro σ H' ⟨rfl, hS, rfl⟩
  have hql := hq.len
  refine seq_cut (fun σ H' => ∃ (D : Addr) (ds : List Addr), σ = [some (.ref p), some (.ref D), none, none, none, none] ∧ Same H H' ∧ H' D = some (.lst (ds.map V.ref)) ∧ Lvs H' ds (S.map levN)) (fun N hN => ?_) ?_
  · refine ⟨_, rfl, p, rfl, ⟨_, SqL.of hp⟩, fun D hD => ?_⟩
    refine lc_list (K := K) (a := p) (xs := qs.map V.ref) (fun j H' => ∃ ds : List Addr, Same H H' ∧ H' D = some (.lst (ds.map V.ref)) ∧ Lvs H' ds ((S.take j).map levN)) ?_ ?_ ?_ ?_
    · exact ⟨[], same_upd _ hD, upd_same, .nil⟩
    · rintro j H' _ ⟨ds, e, _⟩
      exact SqL.of (e _ _ hp)
    · rintro j x H' hx ⟨ds, e, hDs, hLs⟩
      rw [List.getElem?_map] at hx
      obtain ⟨q, hq1, rfl⟩ := Option.map_eq_some_iff.mp hx
      obtain ⟨x, hx1, hxH⟩ := hq.get hq1
      have hdl := hLs.len
      rw [List.length_map, List.length_take] at hdl
      refine ⟨q, _, rfl, SqT.of (e _ _ hxH), rfl, _, _, rfl, _, _, rfl, rfl, rfl, ?_⟩
      have fin : ∀ (z : Int), z = (((levN x).1 : Nat) : Int) → 2 ≤ sizeLine ∧ ∀ t, H' t = none → ∃ acc, upd H' t (.tup [.int z, .int (x.2 : Int)]) D = some (.lst acc) ∧ acc.length < sizeLine ∧ ∃ ds : List Addr, Same H (upd (upd H' t (.tup [.int z, .int (x.2 : Int)])) D (.lst (acc ++ [.ref t]))) ∧ (upd (upd H' t (.tup [.int z, .int (x.2 : Int)])) D (.lst (acc ++ [.ref t]))) D = some (.lst (ds.map V.ref)) ∧ Lvs (upd (upd H' t (.tup [.int z, .int (x.2 : Int)])) D (.lst (acc ++ [.ref t]))) ds ((S.take (j + 1)).map levN) := fun z hz => by
        refine ⟨by decide, fun t ht => ?_⟩
        have e2 := same_upd (.tup [.int z, .int (x.2 : Int)]) ht
        have kt : ∀ y o, upd H' t (.tup [.int z, .int (x.2 : Int)]) y = some (.tup o) → upd (upd H' t (.tup [.int z, .int (x.2 : Int)])) D (.lst (ds.map V.ref ++ [.ref t])) y = some (.tup o) := fun y o w => by
          rw [upd_ne (ne_of w (e2 _ _ hDs) (by intro v; cases v))]
          exact w
        refine ⟨_, e2 _ _ hDs, ?_, ds ++ [t], same_upd2 _ (e.trans e2) hD, by rw [upd_same, List.map_append]; rfl, ?_⟩
        · rw [List.length_map]
          exact Nat.lt_of_le_of_lt (m := 2000) (by omega) (by decide)
        · rw [take_snoc hx1, List.map_append]
          have hl := hLs.mono fun y o w => kt _ _ (e2 _ _ w)
          have ht2 := kt _ _ (show upd H' t (.tup [.int z, .int (x.2 : Int)]) t = some (.tup [.int z, .int (x.2 : Int)]) from upd_same)
          rw [hz] at ht2 hl ⊢
          exact lvs_snoc hl ht2
      refine ⟨_, rfl, ?_⟩
      obtain ⟨bo, qn⟩ := x
      cases bo with
      | true => exact ⟨_, rfl, iteT ⟨_, rfl, fin 1 rfl⟩⟩
      | false => exact ⟨_, rfl, iteF ⟨_, rfl, _, _, rfl, rfl, _, rfl, fin ((qn : Int) + 1) (by simp [levN])⟩⟩
    · rintro H' ⟨ds, e, hDs, hLs⟩
      rw [List.length_map, hql, List.take_length] at hLs
      exact hN _ _ ⟨D, ds, rfl, e, hDs, hLs⟩
  rintro σ H1 ⟨D, ds, rfl, e1, hD1, hL1⟩
  obtain ⟨S0, x, rfl⟩ : ∃ S0 x, S = S0 ++ [x] := ⟨S.dropLast, S.getLast hS, (List.dropLast_concat_getLast hS).symm⟩
  rw [List.map_append, List.map_singleton] at hL1
  obtain ⟨da, d0, rfl, hda, hd0⟩ := hL1.split
  rw [List.map_append, List.map_singleton] at hD1
  have hdl := hda.len
  rw [List.length_map] at hdl
  rw [List.length_append] at hl
  refine seq_cut (fun σ H' => σ = [some (.ref p), some (.ref D), some (.int ((levN x).1 : Int)), some (.int ((levN x).2 : Int)), none, none] ∧ H1 = H') (fun N hN => ?_) ?_
  · exact ⟨_, rfl, _, rfl, D, _, _, _, rfl, rfl, SqL.of hD1, at_last, d0, _, rfl, SqT.of hd0, rfl, _, _, rfl, _, _, rfl, rfl, hN _ _ ⟨rfl, rfl⟩⟩
  rintro σ H' ⟨rfl, rfl⟩
  refine ⟨_, rfl, _, rfl, _, rfl, D, _, rfl, SqL.of hD1, fun s1 hs1 => ?_⟩
  rw [show cutV (da.map V.ref ++ [V.ref d0]) none (some (-1)) = da.map V.ref from cut_m1]
  have a1 := same_upd (.lst (da.map V.ref)) hs1
  have g1 : upd H1 s1 (.lst (da.map V.ref)) s1 = some (.lst (da.map V.ref)) := upd_same
  generalize upd H1 s1 (.lst (da.map V.ref)) = H2 at a1 g1 ⊢
  refine ⟨_, rfl, _, rfl, _, _, rfl, rfl, (by show 2 ≤ sizeLine; decide), fun q hq1 => ⟨(by show 1 ≤ sizeLine; decide), fun s2 hs2 => ?_⟩⟩
  dsimp only at hs2 ⊢
  rw [show ((levN x).2 : Int) + 1 = ((x.2 + 1 : Nat) : Int) from rfl] at hs2 ⊢
  have a2 := same_upd (.tup [.int ((levN x).1 : Int), .int ((x.2 + 1 : Nat) : Int)]) hq1
  have a3 := same_upd (.lst [.ref q]) hs2
  have g2 := a3 _ _ (show upd H2 q (.tup [.int ((levN x).1 : Int), .int ((x.2 + 1 : Nat) : Int)]) q = _ from upd_same)
  have g3 : upd (upd H2 q (.tup [.int ((levN x).1 : Int), .int ((x.2 + 1 : Nat) : Int)])) s2 (.lst [.ref q]) s2 = some (.lst [.ref q]) := upd_same
  have a23 := a2.trans a3
  generalize upd (upd H2 q (.tup [.int ((levN x).1 : Int), .int ((x.2 + 1 : Nat) : Int)])) s2 (.lst [.ref q]) = H3 at a23 g2 g3 ⊢
  refine ⟨s1, s2, _, _, rfl, rfl, a23 _ _ g1, g3, ?_, fun s3 hs3 => ?_⟩
  · rw [List.length_map]
    show da.length + 1 ≤ sizeLine
    exact Nat.le_trans (m := 3000) (by omega) (by decide)
  have a4 := same_upd (.lst (da.map V.ref ++ [.ref q])) hs3
  refine ⟨s3, _, rfl, .inl ⟨SqL.of upd_same, fun t ht => ?_⟩⟩
  have a5 := same_upd (.tup (da.map V.ref ++ [.ref q])) ht
  have eE := (a1.trans a23).trans (a4.trans a5)
  refine k t _ (e1.trans eE) ⟨da ++ [q], by rw [upd_same, List.map_append]; rfl, ?_⟩
  rw [plainN_snoc]
  exact lvs_snoc (hda.mono fun a o z => eE _ _ z) (a5 _ _ (a4 _ _ g2))

/-! ### shapes of signs *--/
def spSigned : Sp := fun vs H Q _ => ∃ (l : Addr) (xs : List Nat), vs = [.ref l] ∧ H l = some (.lst (nats xs)) ∧ xs.length ≤ 200 ∧ ∀ (t : Addr) (H' : Hp), Same H H' → ShAt H' t (plainN (stpOf (rle xs))) → Q (.ref t) H'
def dShp (L : Shp) : List PyData := L.map fun x => .tuple [.int (x.1 : Int), .int (x.2 : Int)]
theorem lvs_dp {H : Hp} : ∀ {qs : List Addr} {L : Shp}, Lvs H qs L → DpAll K H (qs.map V.ref) (dShp L)
  | _, _, .nil => .nil
  | _, _, .cons h t => .cons (.tup (SqT.of h) (.cons (.int _) (.cons (.int _) .nil))) (lvs_dp t)
theorem lay_shp : ∀ L : Shp, PyData.canLayAll0 (dShp L) = true
  | [] => by simp [dShp, PyData.canLayAll0]
  | x :: L => by
    have := lay_shp L
    unfold dShp at this ⊢
    rw [List.map_cons, PyData.canLayAll0, this]
    rfl
theorem depth_shp : ∀ L : Shp, PyData.depthAll (dShp L) ≤ 1
  | [] => by simp [dShp, PyData.depthAll]
  | x :: L => by
    have := depth_shp L
    unfold dShp at this ⊢
    rw [List.map_cons, PyData.depthAll]
    simp only [PyData.depth, PyData.depthAll]
    omega
theorem shaped_shp (L : Shp) : SeqAt.shaped (.list (dShp L)) = true := by
  have := depth_shp L
  unfold SeqAt.shaped
  rw [Bool.and_eq_true]
  refine ⟨by rw [PyData.canLay0]; exact lay_shp L, decide_eq_true ?_⟩
  rw [PyData.depth]
  omega
theorem eqv_shp (L : Shp) : PyData.eqv (.list (dShp L)) (.list []) = decide (L = []) := by
  cases L with
  | nil => simp [dShp, PyData.eqv, PyData.eqvAll]
  | cons m ms => simp [dShp, PyData.eqv, PyData.eqvAll]
theorem shp_len_sum : ∀ R : Shp, (∀ x ∈ R, 1 ≤ x.2) → R.length ≤ (R.map Prod.snd).sum
  | [], _ => Nat.zero_le _
  | r :: R, hp => by
    have h1 := hp r List.mem_cons_self
    have h2 := shp_len_sum R fun x hx => hp x (List.mem_cons_of_mem _ hx)
    rw [List.length_cons, List.map_cons, List.sum_cons]
    omega
theorem ok__law_signed (T : Cd K mg) : FnOk P w K mg base CX0 1 T.a__law_signed T.d__law_signed p__law_signed spSigned := by
  have nd : (n__law_signed : List Str).Nodup := sc__law_signed.nd
  refine T.F__law_signed.ok sc__law_signed (fun vs H Q E h => ?_) (fun cdv A outer s H vs Q E hr h => ?_)
  · obtain ⟨l, xs, rfl, _⟩ := h
    rfl
  obtain ⟨l, xs, rfl, hl, hx, k⟩ := h
  have hu := hu_of hr
  have hu64 := hr.units
  refine ⟨_, (pss_cons (ps_if (pt_cmpR (op_eqD hu64) (pv 0) (pe_lst pa_nil) (nomark _)) (pss_one (ps_ret (pe_tup (pa_cons (pe_tup (pa_cons pe_int (pa_cons pe_int pa_nil))) pa_nil)))) pss_nil)
      (pss_cons (ps_set (i := 1) nd rfl (Or.inl rfl) (pe_lst pa_nil))
      (pss_cons (ps_for PassesOwn.never rfl (pi_list (pv 0)) (pg_name (i := 2) nd rfl (Or.inl rfl))
        (pss_one (ps_if (PW.pt (pw_and (pt_cmpR (op_neD hu64) (pv 1) (pe_lst pa_nil) (nomark _)) (pw_and1 (pt_cmpR op_eq (pe_ix ix_tup (pe_ix ix_list (pv 1) (pe_un un_neg pe_int) (fun _ _ => rfl)) pe_int (fun _ _ => rfl)) (pv 2) (nomark _))))) (pss_one (ps_asg (pe_tup (pa_cons (pv 2) (pa_cons (pe_op op_add (pe_ix ix_tup (pe_ix ix_list (pv 1) (pe_un un_neg pe_int) (fun _ _ => rfl)) pe_int (fun _ _ => rfl)) pe_int) pa_nil))) (pg_sub (pv 1) (pe_un un_neg pe_int) set_list))) (pss_one (ps_expr (pe_bm PySem.F.plainAttrs_list PySem.F.slot_list_append PySem.F.type_list_append mt_append (pv 1) (pa_cons (pe_tup (pa_cons (pv 2) (pa_cons pe_int pa_nil))) pa_nil)))))))
      (pss_cons (ps_setLc (i := 3) (own := [("_law_sign", 2), ("_law_many", 4)]) rfl nd rfl rfl (sw_true rfl rfl rfl (by decide +kernel)) (pi_list (pe_slice sl_list (pv 1) po_none (po_some (pe_un un_neg pe_int)))) (blkOk_by (own := [("_law_sign", 2), ("_law_many", 4)]) (N := n__law_signed) (sc := defScope s__law_signed) (by decide +kernel)) (fun _ _ _ _ _ => (pg_tupK (K := K) 2 rfl rfl (pgs_cons (pg_name (i := 2) nd rfl (Or.inl rfl) (Or.inr rfl)) (pgs_cons (pg_name (i := 4) nd rfl (Or.inl rfl) (Or.inr rfl)) pgs_nil)))) (fun _ _ _ _ _ => pts_nil) (fun _ _ _ _ _ => (pe_tup (pa_cons (pe_ifExp (pt_cmpR op_eq (pv 2) pe_int (nomark _)) pe_int (pe_op op_add (pv 4) pe_int)) (pa_cons (pv 4) pa_nil)))))
      (pss_cons (ps_asg (pe_ix ix_list (pv 1) (pe_un un_neg pe_int) (fun _ _ => rfl)) (pg_tup rfl (pgs_cons (pg_name (i := 2) nd rfl (Or.inl rfl)) (pgs_cons (pg_name (i := 4) nd rfl (Or.inl rfl)) pgs_nil))))
      (pss_one (ps_ret (pe_op op_catA (pe_callTy call_tuple_of (by rfl) T.z_tuple (by decide +kernel) (pa_cons (pv 3) pa_nil)) (pe_tup (pa_cons (pe_tup (pa_cons (pe_ifExp (pt_cmpR op_eq (pv 2) pe_int (nomark _)) pe_int (pe_op op_add (pv 4) pe_int)) (pa_cons (pe_op op_add (pv 4) pe_int) pa_nil))) pa_nil)))))))))), ?_⟩
  refine seq_cut (fun σ H' => σ = [some (.ref l), none, none, none, none] ∧ xs ≠ [] ∧ Same H H') (fun N hN => ?_) ?_
  · refine ⟨_, rfl, (by show 0 ≤ sizeLine; decide), fun p hp => ?_⟩
    have e1 : Same H (upd H p (.lst [])) := same_upd _ hp
    have hl' := e1 _ _ hl
    rw [nats_ints] at hl'
    refine ⟨_, _, .lst (SqL.of hl') (dp_ints _), .lst (SqL.of upd_same) .nil, shaped_ints _, shaped_nil, _, rfl, ?_⟩
    rw [eqv_nil]
    cases xs with
    | nil =>
      refine iteT ⟨(by show 2 ≤ sizeLine; decide), fun q hq => ⟨(by show 1 ≤ sizeLine; decide), fun t ht => ?_⟩⟩
      have e2 := same_upd (.tup [.int 1, .int 1]) hq
      have e3 := same_upd (.tup [.ref q]) ht
      have hq2 := e3 _ _ (show upd (upd H p (.lst [])) q (.tup [.int 1, .int 1]) q = some (.tup [.int 1, .int 1]) from upd_same)
      exact k t _ (e1.trans (e2.trans e3)) ⟨[q], upd_same, .cons hq2 .nil⟩
    | cons x xs => exact iteF (hN _ _ ⟨rfl, by simp, e1⟩)
  rintro σ H0 ⟨rfl, hne, e0⟩
  have hl0 := e0 _ _ hl
  refine seq_cut (fun σ H' => ∃ D : Addr, σ = [some (.ref l), some (.ref D), none, none, none] ∧ Same H H' ∧ H D = none ∧ H' D = some (.lst [])) (fun N hN => ?_) ?_
  · refine ⟨(by show 0 ≤ sizeLine; decide), fun D hD => hN _ _ ⟨D, rfl, e0.trans (same_upd _ hD), e0.free hD, upd_same⟩⟩
  rintro σ H1 ⟨D, rfl, e1, hD0, hD1⟩
  refine seq_cut (fun σ H' => ∃ (x2 : Option V) (qs : List Addr) (R : Shp), σ = [some (.ref l), some (.ref D), x2, none, none] ∧ Same H H' ∧ H' D = some (.lst (qs.map V.ref)) ∧ Lvs H' qs R ∧ R = rle xs) (fun N hN => ?_) ?_
  · refine ⟨_, rfl, l, rfl, ⟨_, SqL.of (e1 _ _ hl)⟩, ?_⟩
    refine for_list (K := K) (a := l) (xs := nats xs) (fun i σ H' => ∃ (x2 : Option V) (qs : List Addr) (R : Shp), σ = [some (.ref l), some (.ref D), x2, none, none] ∧ Same H H' ∧ H' D = some (.lst (qs.map V.ref)) ∧ Lvs H' qs R ∧ R = (xs.take i).foldl rstep []) ?_ ?_ ?_ ?_
    · exact ⟨none, [], [], rfl, e1, hD1, .nil, rfl⟩
    · rintro i σ H' _ ⟨x2, qs, R, rfl, e, _⟩
      exact SqL.of (e _ _ hl)
    · rintro i z σ H2 hz ⟨x2, qs, R, rfl, e2, hD2, hR2, hRi⟩
      obtain ⟨y, hy, rfl⟩ := nats_get hz
      have hi : i < xs.length := (List.getElem?_eq_some_iff.mp hy).1
      have hRl := hR2.len
      have hro := rle_ok (xs.take i)
      unfold rle at hro
      rw [← hRi, List.length_take] at hro
      have hpos := hro.pos
      have hlen : R.length ≤ i := by
        have := shp_len_sum R hpos
        have := hro.sum
        omega
      have hst : (xs.take (i + 1)).foldl rstep [] = rstep R y := by rw [take_snoc hy, List.foldl_append, ← hRi]; rfl
      have e : Same H2 H2 := Same.refl _
      have kt : ∀ (H3 : Hp) (ys : List V), Same H2 H3 → ∀ a o, H3 a = some (.tup o) → upd H3 D (.lst ys) a = some (.tup o) := fun H3 ys e a o w => by
        rw [upd_ne (ne_of w (e _ _ hD2) (by intro v; cases v))]
        exact w
      have tail : ∀ (H3 : Hp) (q : Addr) (qs' : List Addr) (R' : Shp) (m : Nat), Same H2 H3 → Lvs H3 qs' R' → H3 q = some (.tup [.int (y : Int), .int (m : Int)]) → rstep R y = R' ++ [(y, m)] →
          (∃ (x2 : Option V) (qs : List Addr) (R : Shp), [some (V.ref l), some (V.ref D), some (V.int (y : Int)), none, none] = [some (V.ref l), some (V.ref D), x2, none, none] ∧ Same H (upd H3 D (.lst (qs'.map V.ref ++ [.ref q]))) ∧ (upd H3 D (.lst (qs'.map V.ref ++ [.ref q]))) D = some (.lst (qs.map V.ref)) ∧ Lvs (upd H3 D (.lst (qs'.map V.ref ++ [.ref q]))) qs R ∧ R = (xs.take (i + 1)).foldl rstep []) := fun H3 q qs' R' m e3 hL hq hs => by
        exact ⟨_, qs' ++ [q], R' ++ [(y, m)], rfl, same_upd2 _ (e2.trans e3) hD0, by rw [upd_same, List.map_append]; rfl, lvs_snoc (hL.mono fun a o z => kt _ _ e3 _ _ z) (kt _ _ e3 _ _ hq), by rw [hst, hs]⟩
      dsimp only [gName]
      refine if_cut (fun b H' => Same H2 H' ∧ (b = true → ∃ R0 m, R = R0 ++ [(y, m)]) ∧ (b = false → ∀ R0 m, R ≠ R0 ++ [(y, m)])) (fun N' hN' => ?_) ?_ ?_
      · refine ⟨_, rfl, (by show 0 ≤ sizeLine; decide), fun p hp => ?_⟩
        have e3 := same_upd (.lst []) hp
        refine ⟨_, _, .lst (SqL.of (e3 _ _ hD2)) (lvs_dp (hR2.mono fun a o z => e3 _ _ z)), .lst (SqL.of upd_same) .nil, shaped_shp _, shaped_nil, _, rfl, ?_⟩
        rw [eqv_shp]
        by_cases hR : R = []
        · rw [decide_eq_true hR]
          exact iteF (hN' _ _ ⟨e3, fun z => (nomatch z), fun _ R0 m z => by rw [hR] at z; simp at z⟩)
        · rw [decide_eq_false hR]
          obtain ⟨R0, x, rfl⟩ : ∃ R0 x, R = R0 ++ [x] := ⟨R.dropLast, R.getLast hR, (List.dropLast_concat_getLast hR).symm⟩
          obtain ⟨qa, q0, rfl, hqa, hq0⟩ := hR2.split
          rw [List.map_append] at hD2
          refine iteT ⟨_, rfl, _, rfl, D, _, _, _, rfl, rfl, SqL.of (e3 _ _ hD2), at_last, q0, _, _, _, rfl, rfl, SqT.of (e3 _ _ hq0), at_of (j := 0) rfl rfl, _, rfl, rfl, _, rfl, ?_⟩
          refine hN' _ _ ⟨e3, fun z => ⟨R0, x.2, ?_⟩, fun z R1 m w => ?_⟩
          · have := V.int.inj (of_decide_eq_true z)
            rw [show x = (y, x.2) from Prod.ext (by show x.1 = y; omega) rfl]
          · have e1 := (List.cons.inj (List.append_inj_right' w rfl)).1
            refine of_decide_eq_false z ?_
            rw [e1]
      · rintro H3 ⟨e3, hb, _⟩
        obtain ⟨R0, m, rfl⟩ := hb rfl
        obtain ⟨qa, q0, rfl, hqa, hq0⟩ := hR2.split
        rw [List.map_append] at hD2
        rw [List.length_append, List.length_singleton] at hlen
        have hqal := hqa.len
        refine ⟨_, rfl, _, rfl, _, rfl, D, _, _, _, rfl, rfl, SqL.of (e3 _ _ hD2), at_last, q0, _, _, _, rfl, rfl, SqT.of (e3 _ _ hq0), at_of (j := 1) rfl rfl, _, _, rfl, rfl, (by show 2 ≤ sizeLine; decide), fun t ht => ?_⟩
        dsimp only at ht ⊢
        have z1 : (m : Int) + 1 = ((m + 1 : Nat) : Int) := rfl
        rw [z1]
        have e4 := e3.trans (same_upd (.tup [.int (y : Int), .int ((m + 1 : Nat) : Int)]) ht)
        refine ⟨_, rfl, _, rfl, D, _, _, qa.length, rfl, rfl, e4 _ _ hD2, ?_, ?_⟩
        · rw [List.length_append, List.length_map]
          exact ixN_last _
        · have es : (qa.map V.ref ++ [V.ref q0]).set qa.length (.ref t) = qa.map V.ref ++ [.ref t] := by
            rw [List.set_append, if_neg (by simp)]
            simp
          rw [List.map_singleton, es]
          exact tail _ t qa R0 (m + 1) e4 (hqa.mono fun a o z => e4 _ _ z) upd_same rstep_hit
      · rintro H3 ⟨e3, _, hnew⟩
        refine ⟨_, rfl, .inl ⟨rfl, _, SqL.of (e3 _ _ hD2)⟩, _, rfl, (by show 2 ≤ sizeLine; decide), fun t ht => ?_⟩
        have e4 := e3.trans (same_upd (.tup [.int (y : Int), .int 1]) ht)
        refine ⟨D, _, _, rfl, rfl, e4 _ _ hD2, ?_, ?_⟩
        · rw [List.length_map, hRl]
          exact Nat.lt_of_le_of_lt (m := 300) (by omega) (by decide)
        · exact tail _ t qs R 1 e4 (hR2.mono fun a o z => e4 _ _ z) upd_same (rstep_new (hnew rfl))
    · rintro σ H' ⟨x2, qs, R, rfl, e, hD', hR', hRi⟩
      rw [nats_len, List.take_length] at hRi
      exact hN _ _ ⟨x2, qs, R, rfl, e, hD', hR', hRi⟩
  rintro σ H2 ⟨x2, qs, R, rfl, e2, hD2, hR2, hRr⟩
  have hro := rle_ok xs
  rw [← hRr] at hro k
  have hpos := hro.pos
  have hsum := hro.sum
  have hR : R ≠ [] := fun z => by
    rw [z] at hsum
    exact hne (List.eq_nil_of_length_eq_zero hsum.symm)
  clear hRr hro
  obtain ⟨R0, x, rfl⟩ : ∃ R0 x, R = R0 ++ [x] := ⟨R.dropLast, R.getLast hR, (List.dropLast_concat_getLast hR).symm⟩
  obtain ⟨qa, q0, rfl, hqa, hq0⟩ := hR2.split
  rw [List.map_append] at hD2
  have hqal := hqa.len
  have hxl : R0.length + 1 ≤ 200 := by
    have := shp_len_sum _ hpos
    rw [List.length_append, List.length_singleton] at this
    omega
  have lev : ∀ (y : Nat × Nat), (levN (y.1 == 0, y.2)).1 = if y.1 = 0 then 1 else y.2 + 1 := fun y => by
    unfold levN
    by_cases c : y.1 = 0
    · simp [c]
    · simp [c]
  have tst : ∀ (y : Nat × Nat), decide (V.int (y.1 : Int) = V.int 0) = decide (y.1 = 0) := fun y => by
    by_cases c : y.1 = 0
    · rw [decide_eq_true c, decide_eq_true (by rw [c]; rfl)]
    · rw [decide_eq_false c, decide_eq_false (fun z => c (by have := V.int.inj z; omega))]
  refine seq_cut (fun σ H' => ∃ (D2 : Addr) (ds : List Addr), σ = [some (.ref l), some (.ref D), x2, some (.ref D2), none] ∧ Same H2 H' ∧ H' D2 = some (.lst (ds.map V.ref)) ∧ Lvs H' ds (R0.map fun x => levN (x.1 == 0, x.2))) (fun N hN => ?_) ?_
  · refine ⟨_, rfl, _, rfl, _, rfl, D, _, rfl, SqL.of hD2, fun s1 hs1 => ?_⟩
    rw [show cutV (qa.map V.ref ++ [q0].map V.ref) none (some (-1)) = qa.map V.ref from cut_m1]
    have a1 := same_upd (.lst (qa.map V.ref)) hs1
    have g1 : upd H2 s1 (.lst (qa.map V.ref)) s1 = some (.lst (qa.map V.ref)) := upd_same
    generalize upd H2 s1 (.lst (qa.map V.ref)) = H3 at a1 g1 ⊢
    refine ⟨s1, rfl, ⟨_, SqL.of g1⟩, fun D2 hD2n => ?_⟩
    have hqa3 := hqa.mono fun a o z => a1 _ _ z
    refine lc_list (K := K) (a := s1) (xs := qa.map V.ref) (fun j H' => ∃ ds : List Addr, Same H3 H' ∧ H' D2 = some (.lst (ds.map V.ref)) ∧ Lvs H' ds ((R0.take j).map fun x => levN (x.1 == 0, x.2))) ?_ ?_ ?_ ?_
    · exact ⟨[], same_upd _ hD2n, upd_same, .nil⟩
    · rintro j H' _ ⟨ds, e, _⟩
      exact SqL.of (e _ _ g1)
    · rintro j v H' hv ⟨ds, e, hDs, hLs⟩
      rw [List.getElem?_map] at hv
      obtain ⟨q, hq1, rfl⟩ := Option.map_eq_some_iff.mp hv
      obtain ⟨y, hy, hyH⟩ := hqa3.get hq1
      have hdl := hLs.len
      rw [List.length_map, List.length_take] at hdl
      refine ⟨q, _, rfl, SqT.of (e _ _ hyH), rfl, _, _, rfl, _, _, rfl, rfl, rfl, ?_⟩
      have fin : ∀ (z : Int), z = (((levN (y.1 == 0, y.2)).1 : Nat) : Int) → 2 ≤ sizeLine ∧ ∀ t, H' t = none → ∃ acc, upd H' t (.tup [.int z, .int (y.2 : Int)]) D2 = some (.lst acc) ∧ acc.length < sizeLine ∧ ∃ ds : List Addr, Same H3 (upd (upd H' t (.tup [.int z, .int (y.2 : Int)])) D2 (.lst (acc ++ [.ref t]))) ∧ (upd (upd H' t (.tup [.int z, .int (y.2 : Int)])) D2 (.lst (acc ++ [.ref t]))) D2 = some (.lst (ds.map V.ref)) ∧ Lvs (upd (upd H' t (.tup [.int z, .int (y.2 : Int)])) D2 (.lst (acc ++ [.ref t]))) ds ((R0.take (j + 1)).map fun x => levN (x.1 == 0, x.2)) := fun z hz => by
        refine ⟨by decide, fun t ht => ?_⟩
        have e2 := same_upd (.tup [.int z, .int (y.2 : Int)]) ht
        have kt : ∀ x o, upd H' t (.tup [.int z, .int (y.2 : Int)]) x = some (.tup o) → upd (upd H' t (.tup [.int z, .int (y.2 : Int)])) D2 (.lst (ds.map V.ref ++ [.ref t])) x = some (.tup o) := fun x o w => by
          rw [upd_ne (ne_of w (e2 _ _ hDs) (by intro v; cases v))]
          exact w
        refine ⟨_, e2 _ _ hDs, ?_, ds ++ [t], same_upd2 _ (e.trans e2) hD2n, by rw [upd_same, List.map_append]; rfl, ?_⟩
        · rw [List.length_map]
          exact Nat.lt_of_le_of_lt (m := 2000) (by omega) (by decide)
        · rw [take_snoc hy, List.map_append]
          have hl := hLs.mono fun x o w => kt _ _ (e2 _ _ w)
          have ht2 := kt _ _ (show upd H' t (.tup [.int z, .int (y.2 : Int)]) t = some (.tup [.int z, .int (y.2 : Int)]) from upd_same)
          rw [hz] at ht2 hl ⊢
          exact lvs_snoc hl ht2
      refine ⟨_, rfl, rfl, _, rfl, ?_⟩
      rw [lev] at fin
      rw [tst]
      by_cases c : y.1 = 0
      · rw [if_pos c] at fin
        rw [decide_eq_true c]
        exact iteT ⟨_, rfl, fin 1 rfl⟩
      · rw [if_neg c] at fin
        rw [decide_eq_false c]
        exact iteF ⟨_, rfl, _, _, rfl, rfl, _, rfl, fin ((y.2 : Int) + 1) rfl⟩
    · rintro H' ⟨ds, e, hDs, hLs⟩
      rw [List.length_map, hqal, List.take_length] at hLs
      exact hN _ _ ⟨D2, ds, rfl, a1.trans e, hDs, hLs⟩
  rintro σ H3 ⟨D2, ds, rfl, e3, hD3, hL3⟩
  have hdl := hL3.len
  rw [List.length_map] at hdl
  refine seq_cut (fun σ H' => σ = [some (.ref l), some (.ref D), some (.int (x.1 : Int)), some (.ref D2), some (.int (x.2 : Int))] ∧ H3 = H') (fun N hN => ?_) ?_
  · exact ⟨_, rfl, _, rfl, D, _, _, _, rfl, rfl, SqL.of (e3 _ _ hD2), at_last, q0, _, rfl, SqT.of (e3 _ _ hq0), rfl, _, _, rfl, _, _, rfl, rfl, hN _ _ ⟨rfl, rfl⟩⟩
  rintro σ H' ⟨rfl, rfl⟩
  refine ⟨_, rfl, D2, _, rfl, .inl ⟨SqL.of hD3, fun t1 ht1 => ?_⟩⟩
  have e4 := same_upd (.tup (ds.map V.ref)) ht1
  have h4 : upd H3 t1 (.tup (ds.map V.ref)) t1 = some (.tup (ds.map V.ref)) := upd_same
  have hL4 := hL3.mono fun a o z => e4 _ _ z
  generalize upd H3 t1 (.tup (ds.map V.ref)) = H4 at e4 h4 hL4 ⊢
  have fin : ∀ (z : Int), z = (((levN (x.1 == 0, x.2)).1 : Nat) : Int) → 2 ≤ sizeLine ∧ ∀ t, H4 t = none → 1 ≤ sizeLine ∧ ∀ t2, upd H4 t (.tup [.int z, .int ((x.2 : Int) + 1)]) t2 = none → rCatA K (.ref t1) (.ref t2) (upd (upd H4 t (.tup [.int z, .int ((x.2 : Int) + 1)])) t2 (.tup [.ref t])) Q := fun z hz => by
    refine ⟨by decide, fun t ht => ⟨by decide, fun t2 ht2 => ?_⟩⟩
    have e5 := same_upd (.tup [.int z, .int ((x.2 : Int) + 1)]) ht
    have e6 := same_upd (.tup [.ref t]) ht2
    have h6 := e6 _ _ (show upd H4 t (.tup [.int z, .int ((x.2 : Int) + 1)]) t = some (.tup [.int z, .int ((x.2 : Int) + 1)]) from upd_same)
    have h6' : upd (upd H4 t (.tup [.int z, .int ((x.2 : Int) + 1)])) t2 (.tup [.ref t]) t2 = some (.tup [.ref t]) := upd_same
    have e56 := e5.trans e6
    generalize upd (upd H4 t (.tup [.int z, .int ((x.2 : Int) + 1)])) t2 (.tup [.ref t]) = H5 at h6 h6' e56 ⊢
    have eall := e2.trans (e3.trans (e4.trans e56))
    have hz2 : (x.2 : Int) + 1 = ((x.2 + 1 : Nat) : Int) := rfl
    rw [hz, hz2] at h6
    have hpl : plainN ((R0 ++ [x]).map fun x => (x.1 == 0, x.2)) = (R0.map fun x => levN (x.1 == 0, x.2)) ++ [((levN (x.1 == 0, x.2)).1, x.2 + 1)] := by
      rw [List.map_append, List.map_singleton, plainN_snoc, List.map_map]
      rfl
    have done : ∀ (t3 : Addr) (H6 : Hp), Same H5 H6 → H6 t3 = some (.tup ((ds ++ [t]).map V.ref)) → Q (.ref t3) H6 := fun t3 H6 e7 h7 => by
      refine k t3 H6 (eall.trans e7) ⟨_, h7, ?_⟩
      · unfold stpOf
        rw [hpl]
        exact lvs_snoc (hL4.mono fun a o w => e7 _ _ (e56 _ _ w)) (e7 _ _ h6)
    refine ⟨t1, t2, _, _, rfl, rfl, SqT.of (e56 _ _ h4), SqT.of h6', ?_, fun z => ?_, fun _ z => ?_, fun _ _ t3 ht3 => ?_⟩
    · rw [List.length_map]
      show ds.length + 1 ≤ sizeLine
      exact Nat.le_trans (m := 2000) (by omega) (by decide)
    · rw [List.map_eq_nil_iff] at z
      subst z
      exact done t2 H5 (Same.refl _) h6'
    · cases z
    · exact done t3 _ (same_upd _ ht3) (by rw [upd_same, List.map_append]; rfl)
  rw [lev] at fin
  refine ⟨_, rfl, rfl, _, rfl, ?_⟩
  rw [tst]
  by_cases c : x.1 = 0
  · rw [if_pos c] at fin
    rw [decide_eq_true c]
    exact iteT ⟨_, rfl, _, _, rfl, rfl, fin 1 rfl⟩
  · rw [if_neg c] at fin
    rw [decide_eq_false c]
    exact iteF ⟨_, rfl, _, _, rfl, rfl, _, rfl, _, _, rfl, rfl, fin ((x.2 : Int) + 1) rfl⟩

/-! ### the shape of a number *--/
theorem sts_last {H : Hp} {x : Bool × Nat} : ∀ {qs : List Addr} {A : Stp}, Sts H qs (A ++ [x]) → ∃ qa q0, qs = qa ++ [q0] ∧ Sts H qa A ∧ H q0 = some (.tup [.bl x.1, .int (x.2 : Int)])
  | _, [], .cons h .nil => ⟨[], _, rfl, .nil, h⟩
  | _, y :: A, .cons h t => by
    obtain ⟨qa, q0, e, a, b⟩ := sts_last (A := A) t
    exact ⟨_ :: qa, q0, by rw [e]; rfl, .cons h a, b⟩
def Bad (n : Nat) (i : Int) : Prop := ¬ (0 ≤ i ∧ i < ((2 ^ (n - 1) : Nat) : Int))
def spAt (K : PySem.W.Frag) (C : Addr) : Sp := fun vs H Q E => ∃ (n : Nat) (v : V), vs = [.int (n : Int), v] ∧ 1 ≤ n ∧ n ≤ 24 ∧
  ((∃ i : Nat, v = .int (i : Int) ∧ i < 2 ^ (n - 1) ∧ ∀ (t : Addr) (H' : Hp), Same H H' → ShAt H' t (plainN (stpOf (rle (bitsM (n - 1) i)))) → Q (.ref t) H') ∨
   ((Kd K H v false ∨ ∃ i : Int, v = .int i ∧ Bad n i) ∧ ∀ H', Same H H' → E (.ref C) none H'))
theorem ok_plain_at (T : Cd K mg) : FnOk P w K mg base (L2.CX P w) 2 T.a_plain_at T.d_plain_at p_plain_at (spAt K T.c_Unfit) := by
  have nd : (n_plain_at : List Str).Nodup := sc_plain_at.nd
  have G_is_integer : FnOk P w K mg base CX0 1 T.a_is_integer T.d_is_integer p_is_integer (spIsInt K) := ok_is_integer T
  have G_plain_count : FnOk P w K mg base CX0 1 T.a_plain_count T.d_plain_count p_plain_count spCount := ok_plain_count T
  have G_plain_by : FnOk P w K mg base CX0 1 T.a_plain_by T.d_plain_by p_plain_by spPlainBy := ok_plain_by T
  refine T.F_plain_at.okX sc_plain_at (fun vs H Q E h => ?_) (fun cdv A outer s H vs Q E hr h => ?_)
  · obtain ⟨n, v, rfl, _⟩ := h
    rfl
  obtain ⟨n, v, rfl, h1, h2, hk⟩ := h
  refine ⟨_, (pss_cons (ps_if (PW.pt (pw_or (pt_not (pt_val (pe_call G_is_integer (hr.mono (by decide)) rfl T.m_is_integer T.F_is_integer.kp T.b_is_integer .nil pass0 (pa_cons (pv 1) pa_nil)))) (pw_or1 (pt_not (pt_chain op_le op_lt pe_int (pv 1) (pe_call G_plain_count (hr.mono (by decide)) rfl T.m_plain_count T.F_plain_count.kp T.b_plain_count .nil pass0 (pa_cons (pv 0) pa_nil))))))) (pss_one (ps_raise rfl (takes_of rfl rfl rfl rfl) (pmk_bare PySem.F.excBase_ValueError T.x_Unfit T.m_Unfit T.k_Unfit (raises_own T.xb_Unfit T.xt_Unfit) rfl))) pss_nil)
      (pss_cons (ps_set (i := 2) nd rfl (Or.inl rfl) (pe_lst pa_nil))
      (pss_cons (ps_for (passes_of rfl) rfl (pi_range3 rfl T.z_range (pa_cons (pe_op op_sub (pv 0) pe_int) (pa_cons (pe_un un_neg pe_int) (pa_cons (pe_un un_neg pe_int) pa_nil)))) (pg_name (i := 3) nd rfl (Or.inl rfl))
        (pss_cons (ps_set (i := 4) nd rfl (Or.inl rfl) (pe_cmpR op_eq (pe_op op_and (pe_op op_shr (pv 1) (pv 3)) pe_int) pe_int (nomark _)))
      (pss_one (ps_if (PW.pt (pw_and (pt_truth (pv 2) (by intro _; rfl)) (pw_and1 (pt_cmpR op_eq (pe_ix ix_tup (pe_ix ix_list (pv 2) (pe_un un_neg pe_int) (fun _ _ => rfl)) pe_int (fun _ _ => rfl)) (pv 4) (nomark _))))) (pss_one (ps_asg (pe_tup (pa_cons (pv 4) (pa_cons (pe_op op_add (pe_ix ix_tup (pe_ix ix_list (pv 2) (pe_un un_neg pe_int) (fun _ _ => rfl)) pe_int (fun _ _ => rfl)) pe_int) pa_nil))) (pg_sub (pv 2) (pe_un un_neg pe_int) set_list))) (pss_one (ps_expr (pe_bm PySem.F.plainAttrs_list PySem.F.slot_list_append PySem.F.type_list_append mt_append (pv 2) (pa_cons (pe_tup (pa_cons (pv 4) (pa_cons pe_int pa_nil))) pa_nil))))))))
      (pss_one (ps_ret (pe_call G_plain_by (hr.mono (by decide)) rfl T.m_plain_by T.F_plain_by.kp T.b_plain_by .nil pass0 (pa_cons (pv 2) pa_nil))))))), ?_⟩
  rcases hk with ⟨i, rfl, hi, k⟩ | ⟨hk, kE⟩
  · refine seq_cut (fun σ H' => σ = [some (.int (n : Int)), some (.int (i : Int)), none, none, none] ∧ H = H') (fun N hN => ?_) ?_
    · refine ⟨_, rfl, _, _, rfl, kd_int _, _, rfl, iteF ?_⟩
      refine ⟨_, rfl, _, _, rfl, rfl, _, rfl, ?_⟩
      rw [decide_eq_true (show (0 : Int) ≤ (i : Int) by omega)]
      refine iteT ⟨_, rfl, n, rfl, h1, by omega, _, _, rfl, rfl, _, rfl, ?_⟩
      rw [decide_eq_true (show (i : Int) < ((2 ^ (n - 1) : Nat) : Int) by omega)]
      exact iteF (hN _ _ ⟨rfl, rfl⟩)
    rintro σ H0 ⟨rfl, rfl⟩
    refine seq_cut (fun σ H' => ∃ D : Addr, σ = [some (.int (n : Int)), some (.int (i : Int)), some (.ref D), none, none] ∧ Same H H' ∧ H D = none ∧ H' D = some (.lst [])) (fun N hN => ?_) ?_
    · exact ⟨(by show 0 ≤ sizeLine; decide), fun D hD => hN _ _ ⟨D, rfl, same_upd _ hD, hD, upd_same⟩⟩
    rintro σ H1 ⟨D, rfl, e1, hD0, hD1⟩
    refine seq_cut (fun σ H' => ∃ (x3 x4 : Option V) (qs : List Addr), σ = [some (.int (n : Int)), some (.int (i : Int)), some (.ref D), x3, x4] ∧ Same H H' ∧ H' D = some (.lst (qs.map V.ref)) ∧ Sts H' qs (stpOf (rle (bitsM (n - 1) i)))) (fun N hN => ?_) ?_
    · refine ⟨_, rfl, _, _, rfl, rfl, _, rfl, _, rfl, (n : Int) - 2, -1, -1, _, rfl, RgC.neg (by omega) (by omega) (by omega) (by omega), ?_⟩
      rw [show ((n : Int) - 2 - -1).toNat = n - 1 by omega]
      refine for_rangeC (lo := (n : Int) - 2) (c := -1) (n := n - 1) (fun j σ H' => ∃ (x3 x4 : Option V) (qs : List Addr) (R : Shp), σ = [some (.int (n : Int)), some (.int (i : Int)), some (.ref D), x3, x4] ∧ Same H H' ∧ H' D = some (.lst (qs.map V.ref)) ∧ Sts H' qs (stpOf R) ∧ R = ((bitsM (n - 1) i).take j).foldl rstep []) ?_ ?_ ?_
      · exact ⟨none, none, [], [], rfl, e1, hD1, .nil, rfl⟩
      · rintro j σ H2 hj ⟨x3, x4, qs, R, rfl, e2, hD2, hR2, hRi⟩
        have hb := bits_get (v := i) hj
        generalize hy : i / 2 ^ (n - 1 - 1 - j) % 2 = y at hb
        have hy1 : y ≤ 1 := by omega
        have hst : ((bitsM (n - 1) i).take (j + 1)).foldl rstep [] = rstep R y := by rw [take_snoc hb, List.foldl_append, ← hRi]; rfl
        have hro := rle_ok ((bitsM (n - 1) i).take j)
        have hlow := rle_low ((bitsM (n - 1) i).take j) [] (fun x h => nomatch h) (fun x hx => bits_low _ _ x (List.mem_of_mem_take hx))
        unfold rle at hro
        rw [← hRi, List.length_take, bits_len] at hro
        rw [← hRi] at hlow
        have hRl := hR2.len
        have hlen : R.length ≤ j := by
          have := shp_len_sum R hro.pos
          have := hro.sum
          omega
        rw [show (stpOf R).length = R.length by unfold stpOf; rw [List.length_map]] at hRl
        dsimp only [gName]
        refine seq_cut (fun σ H' => ∃ x3 : Option V, σ = [some (.int (n : Int)), some (.int (i : Int)), some (.ref D), x3, some (.bl (y == 0))] ∧ H2 = H') (fun N hN => ?_) ?_
        · refine ⟨_, rfl, _, rfl, _, _, rfl, rfl, by omega, _, _, rfl, rfl, rfl, ?_⟩
          have ep : ((n : Int) - 2 + (j : Nat) * -1).toNat = n - 1 - 1 - j := by omega
          have eb : Builtin.bitAnd ((i : Int) / 2 ^ ((n : Int) - 2 + (j : Nat) * -1).toNat) 1 = (y : Int) := by
            have h3 := Bits.bitAnd_mask (x := (i : Int) / 2 ^ ((n : Int) - 2 + (j : Nat) * -1).toNat) 1 (Int.ediv_nonneg (by omega) (Int.le_of_lt (Int.pow_pos (by decide))))
            rw [show ((2 : Int) ^ 1 - 1) = 1 from rfl, show ((2 : Int) ^ 1) = 2 from rfl] at h3
            rw [h3, ep, ← hy]
            rw [show (2 : Int) ^ (n - 1 - 1 - j) = ((2 ^ (n - 1 - 1 - j) : Nat) : Int) by rw [Int.natCast_pow]; rfl]
            rfl
          have ed : decide (V.int (Builtin.bitAnd ((i : Int) / 2 ^ ((n : Int) - 2 + (j : Nat) * -1).toNat) 1) = V.int 0) = (y == 0) := by
            rw [Bool.eq_iff_iff, decide_eq_true_iff, beq_iff_eq, eb]
            exact ⟨fun z => by have := V.int.inj z; omega, fun z => by rw [z]; rfl⟩
          rw [ed]
          exact hN _ _ ⟨_, rfl, rfl⟩
        clear x3 x4
        rintro σ H' ⟨x3, rfl, rfl⟩
        have kt : ∀ (H3 : Hp) (ys : List V), Same H2 H3 → ∀ a o, H3 a = some (.tup o) → upd H3 D (.lst ys) a = some (.tup o) := fun H3 ys e a o w => by
          rw [upd_ne (ne_of w (e _ _ hD2) (by intro v; cases v))]
          exact w
        have tail : ∀ (H3 : Hp) (q : Addr) (qs' : List Addr) (R' : Shp) (m : Nat), Same H2 H3 → Sts H3 qs' (stpOf R') → H3 q = some (.tup [.bl (y == 0), .int (m : Int)]) → rstep R y = R' ++ [(y, m)] →
            (∃ (x3' x4 : Option V) (qs : List Addr) (R : Shp), [some (V.int (n : Int)), some (.int (i : Int)), some (.ref D), x3, some (.bl (y == 0))] = [some (.int (n : Int)), some (.int (i : Int)), some (.ref D), x3', x4] ∧ Same H (upd H3 D (.lst (qs'.map V.ref ++ [.ref q]))) ∧ (upd H3 D (.lst (qs'.map V.ref ++ [.ref q]))) D = some (.lst (qs.map V.ref)) ∧ Sts (upd H3 D (.lst (qs'.map V.ref ++ [.ref q]))) qs (stpOf R) ∧ R = ((bitsM (n - 1) i).take (j + 1)).foldl rstep []) := fun H3 q qs' R' m e3 hL hq hs => by
          refine ⟨_, _, qs' ++ [q], R' ++ [(y, m)], rfl, same_upd2 _ (e2.trans e3) hD0, by rw [upd_same, List.map_append]; rfl, ?_, by rw [hst, hs]⟩
          unfold stpOf
          rw [List.map_append]
          exact (hL.mono fun a o z => kt _ _ e3 _ _ z).snoc (kt _ _ e3 _ _ hq)
        refine if_cut (fun b H' => Same H2 H' ∧ (b = true → ∃ R0 m, R = R0 ++ [(y, m)]) ∧ (b = false → ∀ R0 m, R ≠ R0 ++ [(y, m)])) (fun N' hN' => ?_) ?_ ?_
        · by_cases hR : R = []
          · have hq0 : qs = [] := List.eq_nil_of_length_eq_zero (by rw [hRl, hR]; rfl)
            rw [hq0] at hD2
            exact ⟨_, rfl, false, .inl ⟨[], SqL.of hD2, rfl⟩, iteF (hN' _ _ ⟨Same.refl _, fun z => (nomatch z), fun _ R0 m z => by rw [hR] at z; simp at z⟩)⟩
          · obtain ⟨R0, x, rfl⟩ : ∃ R0 x, R = R0 ++ [x] := ⟨R.dropLast, R.getLast hR, (List.dropLast_concat_getLast hR).symm⟩
            unfold stpOf at hR2
            rw [List.map_append, List.map_singleton] at hR2
            obtain ⟨qa, q0, rfl, hqa, hq0⟩ := sts_last hR2
            rw [List.map_append] at hD2
            refine ⟨_, rfl, true, .inl ⟨_, SqL.of hD2, by simp⟩, iteT ?_⟩
            refine ⟨_, rfl, _, rfl, D, _, _, _, rfl, rfl, SqL.of hD2, at_last, q0, _, _, _, rfl, rfl, SqT.of hq0, at_of (j := 0) rfl rfl, _, rfl, rfl, _, rfl, ?_⟩
            have hx1 := hlow x (by simp)
            refine hN' _ _ ⟨Same.refl _, fun z => ⟨R0, x.2, ?_⟩, fun z R1 m w => ?_⟩
            · have := V.bl.inj (of_decide_eq_true z)
              rw [Bool.eq_iff_iff, beq_iff_eq, beq_iff_eq] at this
              rw [show x = (y, x.2) from Prod.ext (by show x.1 = y; omega) rfl]
            · have e1 := (List.cons.inj (List.append_inj_right' w rfl)).1
              refine of_decide_eq_false z ?_
              rw [e1]
        · rintro H3 ⟨e3, hb, _⟩
          obtain ⟨R0, m, rfl⟩ := hb rfl
          unfold stpOf at hR2
          rw [List.map_append, List.map_singleton] at hR2
          obtain ⟨qa, q0, rfl, hqa, hq0⟩ := sts_last hR2
          rw [List.map_append] at hD2
          have hqal := hqa.len
          refine ⟨_, rfl, _, rfl, _, rfl, D, _, _, _, rfl, rfl, SqL.of (e3 _ _ hD2), at_last, q0, _, _, _, rfl, rfl, SqT.of (e3 _ _ hq0), at_of (j := 1) rfl rfl, _, _, rfl, rfl, (by show 2 ≤ sizeLine; decide), fun t ht => ?_⟩
          dsimp only at ht ⊢
          have z1 : (m : Int) + 1 = ((m + 1 : Nat) : Int) := rfl
          rw [z1]
          have e4 := e3.trans (same_upd (.tup [.bl (y == 0), .int ((m + 1 : Nat) : Int)]) ht)
          refine ⟨_, rfl, _, rfl, D, _, _, qa.length, rfl, rfl, e4 _ _ hD2, ?_, ?_⟩
          · rw [List.length_append, List.length_map]
            exact ixN_last _
          · have es : (qa.map V.ref ++ [V.ref q0]).set qa.length (.ref t) = qa.map V.ref ++ [.ref t] := by
              rw [List.set_append, if_neg (by simp)]
              simp
            rw [List.map_singleton, es]
            exact tail _ t qa R0 (m + 1) e4 (hqa.mono fun a o z => e4 _ _ z) upd_same rstep_hit
        · rintro H3 ⟨e3, _, hnew⟩
          refine ⟨_, rfl, .inl ⟨rfl, _, SqL.of (e3 _ _ hD2)⟩, _, rfl, (by show 2 ≤ sizeLine; decide), fun t ht => ?_⟩
          have e4 := e3.trans (same_upd (.tup [.bl (y == 0), .int 1]) ht)
          refine ⟨D, _, _, rfl, rfl, e4 _ _ hD2, ?_, ?_⟩
          · rw [List.length_map, hRl]
            exact Nat.lt_of_le_of_lt (m := 300) (by omega) (by decide)
          · exact tail _ t qs R 1 e4 (hR2.mono fun a o z => e4 _ _ z) upd_same (rstep_new (hnew rfl))
      · rintro σ H2 ⟨x3, x4, qs, R, rfl, e2, hD2, hR2, hRi⟩
        rw [List.take_of_length_le (by rw [bits_len]; exact Nat.le_refl _)] at hRi
        exact hN _ _ ⟨x3, x4, qs, rfl, e2, hD2, by rw [rle, ← hRi]; exact hR2⟩
    rintro σ H2 ⟨x3, x4, qs, rfl, e2, hD2, hq2⟩
    have hro := rle_ok (bitsM (n - 1) i)
    rw [bits_len] at hro
    have hlen := shp_len_sum _ hro.pos
    rw [hro.sum] at hlen
    refine ⟨_, rfl, D, qs, _, rfl, hD2, hq2, by unfold stpOf; rw [List.length_map]; omega, fun t H3 e3 h3 => k t H3 (e2.trans e3) h3⟩
  · rcases hk with hk | ⟨i, rfl, hb⟩
    · exact ⟨_, rfl, v, false, rfl, hk, _, rfl, iteT (iteT (kE H (Same.refl _)))⟩
    · refine ⟨_, rfl, _, _, rfl, kd_int _, _, rfl, iteF ?_⟩
      refine ⟨_, rfl, _, _, rfl, rfl, _, rfl, ?_⟩
      by_cases c : (0 : Int) ≤ i
      · rw [decide_eq_true c]
        refine iteT ⟨_, rfl, n, rfl, h1, by omega, _, _, rfl, rfl, _, rfl, ?_⟩
        rw [decide_eq_false (fun z => hb ⟨c, z⟩)]
        exact iteT (kE H (Same.refl _))
      · rw [decide_eq_false c]
        exact iteF ⟨_, rfl, iteT (kE H (Same.refl _))⟩

/-! ### the number of a shape *--/
def spNum : Sp := fun vs H Q _ => ∃ (p : Addr) (L : Shp), vs = [.ref p] ∧ ShAt H p L ∧ (∀ x ∈ L, x.2 ≤ 1000) ∧ ∀ H' : Hp, Same H H' → Q (.int ((numS 0 L / 2 : Nat) : Int)) H'
theorem numS_app : ∀ (A B : Shp) (acc : Nat), numS acc (A ++ B) = numS (numS acc A) B
  | [], B, acc => rfl
  | x :: A, B, acc => by
    show numS (valA acc _) (A ++ B) = _
    rw [numS_app A B]
    rfl
theorem ok_plain_number (T : Cd K mg) : FnOk P w K mg base CX0 1 T.a_plain_number T.d_plain_number p_plain_number spNum := by
  have nd : (n_plain_number : List Str).Nodup := sc_plain_number.nd
  refine T.F_plain_number.ok sc_plain_number (fun vs H Q E h => ?_) (fun cdv A outer s H vs Q E hr h => ?_)
  · obtain ⟨p, L, rfl, _⟩ := h
    rfl
  obtain ⟨p, L, rfl, hS, hx, k⟩ := h
  refine ⟨_, (pss_cons (ps_set (i := 1) nd rfl (Or.inl rfl) pe_int)
      (pss_cons (ps_for PassesOwn.never rfl (pi_tup (pv 0)) (pg_tup rfl (pgs_cons (pg_name (i := 2) nd rfl (Or.inl rfl)) (pgs_cons (pg_name (i := 3) nd rfl (Or.inl rfl)) pgs_nil)))
        (pss_one (ps_for PassesOwn.never rfl (pi_range1 rfl T.z_range (pa_cons (pv 3) pa_nil)) (pg_name (i := 4) nd rfl (Or.inl rfl))
        (pss_one (ps_set (i := 1) nd rfl (Or.inl rfl) (pe_op op_add (pe_op op_mul pe_int (pv 1)) (pe_ifExp (pt_cmpR op_eq (pv 2) pe_int (nomark _)) pe_int pe_int)))))))
      (pss_one (ps_ret (pe_op op_fdiv (pv 1) pe_int))))), ?_⟩
  obtain ⟨qs, hp, hq⟩ := hS.ex
  have hql := hq.len
  refine seq_cut (fun σ H' => σ = [some (.ref p), some (.int 0), none, none, none] ∧ H = H') (fun N hN => hN _ _ ⟨rfl, rfl⟩) ?_
  rintro σ H0 ⟨rfl, rfl⟩
  refine seq_cut (fun σ H' => ∃ x2 x3 x4 : Option V, σ = [some (.ref p), some (.int ((numS 0 L : Nat) : Int)), x2, x3, x4] ∧ H = H') (fun N hN => ?_) ?_
  · refine ⟨_, rfl, p, rfl, ⟨_, SqT.of hp⟩, ?_⟩
    refine for_tup (K := K) (a := p) (xs := qs.map V.ref) (fun j σ H' => ∃ x2 x3 x4 : Option V, σ = [some (.ref p), some (.int ((numS 0 (L.take j) : Nat) : Int)), x2, x3, x4] ∧ H = H') ?_ ?_ ?_ ?_
    · exact ⟨_, _, _, rfl, rfl⟩
    · rintro j σ H' _ ⟨x2, x3, x4, rfl, rfl⟩
      exact SqT.of hp
    · rintro j v σ H1 hv ⟨x2, x3, x4, rfl, rfl⟩
      rw [List.getElem?_map] at hv
      obtain ⟨q, hq1, rfl⟩ := Option.map_eq_some_iff.mp hv
      obtain ⟨x, hx1, hxH⟩ := hq.get hq1
      have hx2 := hx x (List.mem_of_getElem? hx1)
      have hst : numS 0 (L.take (j + 1)) = valA (numS 0 (L.take j)) (List.replicate x.2 (if x.1 = 1 then 0 else 1)) := by
        rw [take_snoc hx1, numS_app]
        rfl
      generalize numS 0 (L.take j) = acc at hst ⊢
      refine ⟨q, _, rfl, SqT.of hxH, rfl, _, _, rfl, _, _, rfl, rfl, ?_⟩
      refine ⟨_, rfl, x.2, rfl, by omega, by omega, for_range (lo := 0) (n := (x.2 : Int).toNat) (fun i σ H' => ∃ x4 : Option V, σ = [some (.ref p), some (.int ((valA acc (List.replicate i (if x.1 = 1 then 0 else 1)) : Nat) : Int)), some (.int (x.1 : Int)), some (.int (x.2 : Int)), x4] ∧ H = H') ?_ ?_ ?_⟩
      · exact ⟨_, rfl, rfl⟩
      · rintro i σ H2 hi ⟨x4, rfl, rfl⟩
        dsimp only [gName]
        have hv2 : valA acc (List.replicate (i + 1) (if x.1 = 1 then 0 else 1)) = 2 * valA acc (List.replicate i (if x.1 = 1 then 0 else 1)) + (if x.1 = 1 then 0 else 1) := by
          rw [List.replicate_succ', valA_app]
          rfl
        refine ⟨_, rfl, _, _, rfl, rfl, .inl ⟨by decide, by decide⟩, ?_⟩
        refine ⟨_, rfl, rfl, _, rfl, ?_⟩
        by_cases c : x.1 = 1
        · rw [decide_eq_true (show V.int (x.1 : Int) = V.int 1 by rw [c]; rfl)]
          rw [if_pos c] at hv2 ⊢
          refine iteT ⟨_, _, rfl, rfl, some (.int (0 + (i : Nat))), ?_, rfl⟩
          rw [hv2]
          rw [show ((2 * valA acc (List.replicate i 0) + 0 : Nat) : Int) = 2 * ((valA acc (List.replicate i 0) : Nat) : Int) + 0 by omega]
          rfl
        · rw [decide_eq_false (show ¬ V.int (x.1 : Int) = V.int 1 from fun z => c (by have := V.int.inj z; omega))]
          rw [if_neg c] at hv2 ⊢
          refine iteF ⟨_, _, rfl, rfl, some (.int (0 + (i : Nat))), ?_, rfl⟩
          rw [hv2]
          rw [show ((2 * valA acc (List.replicate i 1) + 1 : Nat) : Int) = 2 * ((valA acc (List.replicate i 1) : Nat) : Int) + 1 by omega]
          rfl
      · rintro σ H2 ⟨x4, rfl, rfl⟩
        refine ⟨some (.int (x.1 : Int)), some (.int (x.2 : Int)), x4, ?_, rfl⟩
        rw [hst, show (x.2 : Int).toNat = x.2 by omega]
    · rintro σ H1 ⟨x2, x3, x4, rfl, rfl⟩
      rw [List.length_map, hql, List.take_length]
      exact hN _ _ ⟨x2, x3, x4, rfl, rfl⟩
  rintro σ H1 ⟨x2, x3, x4, rfl, rfl⟩
  refine ⟨_, rfl, _, _, rfl, rfl, ⟨by decide, by decide⟩, ?_⟩
  exact k H (Same.refl _)
/-! ### what is no number *--/
def spWord (K : PySem.W.Frag) : Sp := fun vs H Q _ => ∃ (n : Nat) (v : V), vs = [.int (n : Int), v] ∧ 1 ≤ n ∧ n ≤ 24 ∧ (Kd K H v false ∨ ∃ i : Int, v = .int i ∧ Bad n i) ∧ ∀ H', Same H H' → Q (.str "unfit") H'
theorem ok__law_word (T : Cd K mg) : FnOk P w K mg base CX0 3 T.a__law_word T.d__law_word p__law_word (spWord K) := by
  have nd : (n__law_word : List Str).Nodup := sc__law_word.nd
  have G_plain_at : FnOk P w K mg base (L2.CX P w) 2 T.a_plain_at T.d_plain_at p_plain_at (spAt K T.c_Unfit) := ok_plain_at T
  refine T.F__law_word.ok sc__law_word (fun vs H Q E h => ?_) (fun cdv A outer s H vs Q E hr h => ?_)
  · obtain ⟨n, v, rfl, _⟩ := h
    rfl
  have hu := hu_of hr
  have hu64 := hr.units
  obtain ⟨n, v, rfl, h1, h2, hk, k⟩ := h
  refine ⟨_, (pss_one (ps_try_many rfl rfl takes0 (fun W pn xe tk po => (pss_one (ps_ret (pe_cmpR (show OpR _ (compareOp .Eq) (rEqD K) from (op_eqD hu64)) (pe_callS G_plain_at (hr.mono (by decide)) rfl T.m_plain_at T.F_plain_at.kp T.b_plain_at (fun σ => passAt tk σ) (pa_cons (pv 0) (pa_cons (pv 1) pa_nil))) pe_str (nomark _))))) (.cons ⟨rfl, by decide, .inl T.m_Unfit⟩ (fun a oe cls d pn hz hf => (pss_one (ps_ret pe_str))) (.cons ⟨rfl, by decide, .inl T.m_TripError⟩ (fun a oe cls d pn hz hf => (pss_one (ps_ret pe_str))) .nil)))), ?_⟩
  refine ⟨_, rfl, _, rfl, n, v, rfl, h1, h2, .inr ⟨hk, fun H' e => ?_⟩⟩
  exact ⟨true, T.e_Unfit_Unfit, fun _ x hx => k H' e, fun z => nomatch z⟩
def spPickV : Sp := fun vs H Q _ => ∃ (b g l : Addr) (xs : List V), vs = [.ref b, .ref l] ∧ Bag H b g ∧ H l = some (.lst xs) ∧ xs ≠ [] ∧ xs.length < 1000 ∧ l ≠ g ∧
  ∀ (x : V) (H' : Hp), x ∈ xs → Keep b g H H' → Bag H' b g → Q x H'
theorem ok__law_pick (T : Cd K mg) : FnOk P w K mg base CX0 2 T.a__law_pick T.d__law_pick p__law_pick spPickV := by
  have nd : (n__law_pick : List Str).Nodup := sc__law_pick.nd
  have G__law_take : FnOk P w K mg base CX0 1 T.a__law_take T.d__law_take p__law_take spDraw := ok__law_take T
  refine T.F__law_pick.ok sc__law_pick (fun vs H Q E h => ?_) (fun cdv A outer s H vs Q E hr h => ?_)
  · obtain ⟨b, g, l, xs, rfl, _⟩ := h
    rfl
  obtain ⟨b, g, l, xs, rfl, B, hl, hne, hlen, hlg, k⟩ := h
  refine ⟨_, (pss_one (ps_ret (pe_ix ix_list (pv 1) (pe_call G__law_take (hr.mono (by decide)) rfl T.m__law_take T.F__law_take.kp T.b__law_take .nil pass0 (pa_cons (pv 0) (pa_cons (pe_callB call_len_seq (by rfl) T.z_len (by decide +kernel) (pa_cons (pv 1) pa_nil)) pa_nil))) (fun _ _ => rfl)))), ?_⟩
  have hpos : 0 < xs.length := List.length_pos_iff.mpr hne
  refine ⟨_, rfl, _, rfl, _, rfl, l, _, rfl, .inl (SqL.of hl), b, g, (xs.length : Int), rfl, B, by omega, by omega, fun r H' r0 r1 kp B' => ?_⟩
  have r1 := r1 (by omega)
  have hlb : l ≠ b := by
    obtain ⟨ms, m, h1, h2, _⟩ := B.ex
    exact ne_of hl h1 (by intro z; cases z)
  have hl' := kp l _ hlb hlg hl
  obtain ⟨j, rfl⟩ : ∃ j : Nat, r = j := ⟨r.toNat, by omega⟩
  have hj : j < xs.length := by omega
  refine ⟨l, _, _, _, rfl, rfl, SqL.of hl', at_of (j := j) rfl (List.getElem?_eq_getElem hj), ?_⟩
  exact k _ H' (List.getElem_mem hj) kp B'

/-! ### next to a number *--/
theorem able_shp : ∀ {L : Shp}, (∀ x ∈ L, x.1 < 2 ^ 64 ∧ x.2 < 2 ^ 64) → PyData.showableAll (dShp L) = true
  | [], _ => by simp [dShp, PyData.showableAll]
  | x :: L, h => by
    obtain ⟨a, b⟩ := h x List.mem_cons_self
    have ih := able_shp fun y hy => h y (List.mem_cons_of_mem _ hy)
    have h1 := able_int (i := (x.1 : Int)) (by omega)
    have h2 := able_int (i := (x.2 : Int)) (by omega)
    unfold dShp at ih ⊢
    rw [List.map_cons, PyData.showableAll, ih]
    simp [PyData.showable, PyData.showableAll] at h1 h2 ⊢
    exact ⟨h1, h2⟩
theorem nod_shp : ∀ L : Shp, PyData.hasDictAll (dShp L) = false
  | [] => by simp [dShp, PyData.hasDictAll]
  | x :: L => by
    have ih := nod_shp L
    unfold dShp at ih ⊢
    rw [List.map_cons, PyData.hasDictAll, ih]
    simp [PyData.hasDict, PyData.hasDictAll]
theorem costs_shp : ∀ L : Shp, Own.costs (dShp L) = 3854 * L.length
  | [] => by simp [dShp, Own.costs]
  | x :: L => by
    have ih := costs_shp L
    unfold dShp at ih ⊢
    rw [List.map_cons, Own.costs, ih, List.length_cons]
    simp only [Own.cost, Own.costs]
    omega
theorem shows_shp {L : Shp} (h : ∀ x ∈ L, x.1 < 2 ^ 64 ∧ x.2 < 2 ^ 64) (hl : L.length ≤ 2000) : Shows (.tuple (dShp L)) := by
  have := depth_shp L
  refine shows_mk (by rw [PyData.showable]; exact able_shp h) (by rw [PyData.hasDict]; exact nod_shp L) ?_ ?_
  · rw [PyData.depth]; omega
  · rw [Own.cost, costs_shp]
    omega
theorem ShAt.dp {H : Hp} {p : Addr} {L : Shp} (h : ShAt H p L) : Dp K H (.ref p) (.tuple (dShp L)) := by
  obtain ⟨qs, h1, h2⟩ := h.ex
  exact .tup (SqT.of h1) (lvs_dp h2)
def pD (x : Nat × Nat) : PyData := .tuple [.int (x.1 : Int), .int (x.2 : Int)]
theorem pD_eqv (x y : Nat × Nat) : PyData.eqv (pD x) (pD y) = decide (x = y) := by
  obtain ⟨a, b⟩ := x
  obtain ⟨c, d⟩ := y
  have e : PyData.eqv (pD (a, b)) (pD (c, d)) = (((a : Int) == (c : Int)) && (((b : Int) == (d : Int)) && true)) := by simp only [pD, PyData.eqv, PyData.eqvAll]
  rw [e]
  by_cases h : a = c
  · by_cases h2 : b = d
    · rw [h, h2]
      simp
    · rw [show ((b : Int) == (d : Int)) = false from beq_eq_false_iff_ne.mpr (by omega), decide_eq_false (fun z => h2 (Prod.mk.inj z).2), Bool.false_and, Bool.and_false]
  · rw [show ((a : Int) == (c : Int)) = false from beq_eq_false_iff_ne.mpr (by omega), decide_eq_false (fun z => h (Prod.mk.inj z).1), Bool.false_and]
theorem pD_shaped (x : Nat × Nat) : SeqAt.shaped (pD x) = true := by
  unfold SeqAt.shaped pD
  simp [PyData.canLay0, PyData.canLayAll0, PyData.depth, PyData.depthAll]
theorem pD_lay (x : Nat × Nat) : (pD x).canLay0 = true := by simp [pD, PyData.canLay0, PyData.canLayAll0]
theorem pD_any (x : Nat × Nat) (L : Shp) : ((dShp L).any fun z => PyData.eqv z (pD x)) = decide (x ∈ L) := by
  rw [Bool.eq_iff_iff, List.any_eq_true, decide_eq_true_iff]
  constructor
  · rintro ⟨z, hz, e⟩
    obtain ⟨y, hy, rfl⟩ := List.mem_map.mp hz
    have := pD_eqv y x
    rw [show PyData.eqv (.tuple [.int (y.1 : Int), .int (y.2 : Int)]) (pD x) = PyData.eqv (pD y) (pD x) from rfl, this] at e
    rw [← of_decide_eq_true e]
    exact hy
  · intro h
    exact ⟨pD x, List.mem_map.mpr ⟨x, h, rfl⟩, by rw [pD_eqv]; exact decide_eq_true rfl⟩
theorem plain_gcd : ∀ S : Stp, (∀ x ∈ S, 1 ≤ x.2) → Nat.gcd (pw (plainN S)).a (pw (plainN S)).b = 1
  | [], _ => by decide
  | x :: r, h => by
    obtain ⟨u1, u2⟩ := plain_up x (h x List.mem_cons_self) r
    have ih := plain_gcd r fun y hy => h y (List.mem_cons_of_mem _ hy)
    rw [u1, u2]
    obtain ⟨bo, q⟩ := x
    cases bo with
    | true =>
      simp only [if_true]
      rw [Nat.gcd_add_mul_right_right]
      exact ih
    | false =>
      simp only [Bool.false_eq_true, if_false]
      rw [Nat.gcd_comm, Nat.gcd_add_mul_right_right, Nat.gcd_comm]
      exact ih
theorem plain_size : ∀ S : Stp, sizeS (plainN S) = (S.map Prod.snd).sum + 1
  | [] => rfl
  | [x] => by
    rw [plainN]
    simp [sizeS]
  | x :: y :: r => by
    rw [plainN]
    have ih := plain_size (y :: r)
    simp only [sizeS, levN, List.map_cons, List.sum_cons] at ih ⊢
    omega
theorem plain_len (S : Stp) : (plainN S).length ≤ S.length + 1 := by
  rcases List.eq_nil_or_concat S with z | ⟨S0, y, z⟩
  · rw [z]; decide
  · rw [z, List.concat_eq_append, plainN_snoc, List.length_append, List.length_map, List.length_append, List.length_singleton, List.length_singleton]
    omega
theorem len_sum : ∀ S : Stp, (∀ x ∈ S, 1 ≤ x.2) → S.length ≤ (S.map Prod.snd).sum
  | [], _ => Nat.zero_le _
  | r :: R, hp => by
    have h1 := hp r List.mem_cons_self
    have h2 := len_sum R fun x hx => hp x (List.mem_cons_of_mem _ hx)
    rw [List.length_cons, List.map_cons, List.sum_cons]
    omega
theorem fib_mono2 : ∀ {m n : Nat}, m ≤ n → fib (m + 1) ≤ fib (n + 1) := fun {m n} h => by
  have := fib_up (n - m) m
  rwa [show m + 1 + (n - m) = n + 1 by omega] at this
theorem shows_nats {r : List Nat} (h : ∀ x ∈ r, x < 2 ^ 64) (hl : r.length ≤ 2000) : Shows (.tuple ((r.map fun (x : Nat) => (x : Int)).map PyData.int)) := by
  refine shows_mk ?_ ?_ ?_ ?_
  · rw [PyData.showable]
    exact able_ints fun x hx => by
      obtain ⟨y, hy, rfl⟩ := List.mem_map.mp hx
      have := h y hy
      omega
  · rw [PyData.hasDict]; exact nod_ints _
  · rw [PyData.depth, depth_ints]; omega
  · rw [Own.cost, costs_ints, List.length_map]
    omega
theorem fib_key (f : Nat → Nat) (h : ∀ n, f (n + 2) = f (n + 1) + f n) (e0 : f 0 = 0) (e1 : f 1 = 1) : f 42 ≤ 1000000000 := by
  have e2 : f 2 = 1 := by rw [show f 2 = f 1 + f 0 from h 0, e1, e0]
  have e3 : f 3 = 2 := by rw [show f 3 = f 2 + f 1 from h 1, e2, e1]
  have e4 : f 4 = 3 := by rw [show f 4 = f 3 + f 2 from h 2, e3, e2]
  have e5 : f 5 = 5 := by rw [show f 5 = f 4 + f 3 from h 3, e4, e3]
  have e6 : f 6 = 8 := by rw [show f 6 = f 5 + f 4 from h 4, e5, e4]
  have e7 : f 7 = 13 := by rw [show f 7 = f 6 + f 5 from h 5, e6, e5]
  have e8 : f 8 = 21 := by rw [show f 8 = f 7 + f 6 from h 6, e7, e6]
  have e9 : f 9 = 34 := by rw [show f 9 = f 8 + f 7 from h 7, e8, e7]
  have e10 : f 10 = 55 := by rw [show f 10 = f 9 + f 8 from h 8, e9, e8]
  have e11 : f 11 = 89 := by rw [show f 11 = f 10 + f 9 from h 9, e10, e9]
  have e12 : f 12 = 144 := by rw [show f 12 = f 11 + f 10 from h 10, e11, e10]
  have e13 : f 13 = 233 := by rw [show f 13 = f 12 + f 11 from h 11, e12, e11]
  have e14 : f 14 = 377 := by rw [show f 14 = f 13 + f 12 from h 12, e13, e12]
  have e15 : f 15 = 610 := by rw [show f 15 = f 14 + f 13 from h 13, e14, e13]
  have e16 : f 16 = 987 := by rw [show f 16 = f 15 + f 14 from h 14, e15, e14]
  have e17 : f 17 = 1597 := by rw [show f 17 = f 16 + f 15 from h 15, e16, e15]
  have e18 : f 18 = 2584 := by rw [show f 18 = f 17 + f 16 from h 16, e17, e16]
  have e19 : f 19 = 4181 := by rw [show f 19 = f 18 + f 17 from h 17, e18, e17]
  have e20 : f 20 = 6765 := by rw [show f 20 = f 19 + f 18 from h 18, e19, e18]
  have e21 : f 21 = 10946 := by rw [show f 21 = f 20 + f 19 from h 19, e20, e19]
  have e22 : f 22 = 17711 := by rw [show f 22 = f 21 + f 20 from h 20, e21, e20]
  have e23 : f 23 = 28657 := by rw [show f 23 = f 22 + f 21 from h 21, e22, e21]
  have e24 : f 24 = 46368 := by rw [show f 24 = f 23 + f 22 from h 22, e23, e22]
  have e25 : f 25 = 75025 := by rw [show f 25 = f 24 + f 23 from h 23, e24, e23]
  have e26 : f 26 = 121393 := by rw [show f 26 = f 25 + f 24 from h 24, e25, e24]
  have e27 : f 27 = 196418 := by rw [show f 27 = f 26 + f 25 from h 25, e26, e25]
  have e28 : f 28 = 317811 := by rw [show f 28 = f 27 + f 26 from h 26, e27, e26]
  have e29 : f 29 = 514229 := by rw [show f 29 = f 28 + f 27 from h 27, e28, e27]
  have e30 : f 30 = 832040 := by rw [show f 30 = f 29 + f 28 from h 28, e29, e28]
  have e31 : f 31 = 1346269 := by rw [show f 31 = f 30 + f 29 from h 29, e30, e29]
  have e32 : f 32 = 2178309 := by rw [show f 32 = f 31 + f 30 from h 30, e31, e30]
  have e33 : f 33 = 3524578 := by rw [show f 33 = f 32 + f 31 from h 31, e32, e31]
  have e34 : f 34 = 5702887 := by rw [show f 34 = f 33 + f 32 from h 32, e33, e32]
  have e35 : f 35 = 9227465 := by rw [show f 35 = f 34 + f 33 from h 33, e34, e33]
  have e36 : f 36 = 14930352 := by rw [show f 36 = f 35 + f 34 from h 34, e35, e34]
  have e37 : f 37 = 24157817 := by rw [show f 37 = f 36 + f 35 from h 35, e36, e35]
  have e38 : f 38 = 39088169 := by rw [show f 38 = f 37 + f 36 from h 36, e37, e36]
  have e39 : f 39 = 63245986 := by rw [show f 39 = f 38 + f 37 from h 37, e38, e37]
  have e40 : f 40 = 102334155 := by rw [show f 40 = f 39 + f 38 from h 38, e39, e38]
  have e41 : f 41 = 165580141 := by rw [show f 41 = f 40 + f 39 from h 39, e40, e39]
  have e42 : f 42 = 267914296 := by rw [show f 42 = f 41 + f 40 from h 40, e41, e40]
  rw [e42]
  decide
theorem fib_42 : fib 42 ≤ 1000000000 := fib_key fib fib_step rfl rfl
structure Fit (n v : Nat) (L : Shp) : Prop where
  ok : Ok L
  a : (pw L).a = (spr (bitsM (n - 1) v)).1
  b : (pw L).b = (spr (bitsM (n - 1) v)).2
  num : numS 0 L / 2 = v
  low : ∀ x ∈ L, x.1 < 2 ^ 64 ∧ x.2 < 2 ^ 64
  few : ∀ x ∈ L, x.2 ≤ 1000
  len : L.length ≤ 30
  sum : (pw L).a + (pw L).b ≤ 1000000000
theorem size_mem : ∀ {L : Shp} {x : Nat × Nat}, x ∈ L → x.2 ≤ sizeS L
  | [], x, h => nomatch h
  | (k, s) :: r, x, h => by
    rw [sizeS]
    rcases List.mem_cons.mp h with e | e
    · rw [e]
      show s ≤ s + sizeS r
      omega
    · have := size_mem e
      omega
theorem rle_facts {xs : List Nat} (h : ∀ x ∈ xs, x ≤ 1) (hl : xs.length ≤ 23) : Ok (plainN (stpOf (rle xs))) ∧ (∀ x ∈ plainN (stpOf (rle xs)), x.2 ≤ 24) ∧ (plainN (stpOf (rle xs))).length ≤ 30 ∧ (pw (plainN (stpOf (rle xs)))).a + (pw (plainN (stpOf (rle xs)))).b ≤ 1000000000 ∧ (pw (plainN (stpOf (rle xs)))).a = (spr xs).1 ∧ (pw (plainN (stpOf (rle xs)))).b = (spr xs).2 ∧ numS 0 (plainN (stpOf (rle xs))) / 2 = valA 0 xs := by
  have hro := rle_ok xs
  have pos := stpOf_pos hro.pos
  have ok := plain_ok _ pos
  have hs := plain_size (stpOf (rle xs))
  rw [stpOf_sum, hro.sum] at hs
  have hln := plain_len (stpOf (rle xs))
  have hls := len_sum _ pos
  rw [stpOf_sum, hro.sum] at hls
  obtain ⟨f1, f2, f3, f4, f5⟩ := pw_fib ok
  have g1 : fib (sizeS (plainN (stpOf (rle xs))) + 2) ≤ fib 42 := fib_mono2 (m := sizeS (plainN (stpOf (rle xs))) + 1) (n := 41) (by omega)
  have g2 := fib_42
  obtain ⟨e1, e2⟩ := spr_expand _ pos
  have e3 := num_plain _ 0 pos
  rw [expand_rle h] at e1 e2 e3
  refine ⟨ok, fun x hx => ?_, by omega, by omega, e1, e2, e3⟩
  have := size_mem hx
  omega
theorem fit_of {n v : Nat} (h1 : 1 ≤ n) (h2 : n ≤ 24) (hv : v < 2 ^ (n - 1)) : Fit n v (plainN (stpOf (rle (bitsM (n - 1) v)))) := by
  obtain ⟨ok, few, len, sum, a, b, num⟩ := rle_facts (bits_low (n - 1) v) (by rw [bits_len]; omega)
  refine ⟨ok, a, b, ?_, fun x hx => ?_, fun x hx => ?_, len, sum⟩
  · rw [num, val_bits, Nat.zero_mul, Nat.zero_add, Nat.mod_eq_of_lt hv]
  · have := few x hx
    have := (ok.lev x hx).2.1
    omega
  · have := few x hx
    omega
theorem shows_one {i : Nat} (h : i < 2 ^ 64) : Shows (.int (i : Int)) := by
  have := able_int (i := (i : Int)) (by omega)
  refine shows_mk this (by simp [PyData.hasDict]) (by simp [PyData.depth]) (by simp [Own.cost])
/-- one number's shape is asked, held against the law's, led back *--/
def spNear : Sp := fun vs H Q _ => ∃ n v : Nat, vs = [.int (n : Int), .int (v : Int)] ∧ 1 ≤ n ∧ n ≤ 24 ∧ v < 2 ^ (n - 1) ∧ ∀ H' : Hp, Same H H' → Q (.bl true) H'
theorem ok__law_is_near (T : Cd K mg) : FnG P w K mg base 3 T.a__law_is_near T.d__law_is_near p__law_is_near spNear := by
  have nd : (n__law_is_near : List Str).Nodup := sc__law_is_near.nd
  have G__law_power : FnOk P w K mg base CX0 1 T.a__law_power T.d__law_power p__law_power spPower := ok__law_power T
  have G_plain_at : FnOk P w K mg base (L2.CX P w) 2 T.a_plain_at T.d_plain_at p_plain_at (spAt K T.c_Unfit) := ok_plain_at T
  have G__law_signed : FnOk P w K mg base CX0 1 T.a__law_signed T.d__law_signed p__law_signed spSigned := ok__law_signed T
  have G__law_signs : FnOk P w K mg base CX0 1 T.a__law_signs T.d__law_signs p__law_signs spSigns := ok__law_signs T
  have G_plain_number : FnOk P w K mg base CX0 1 T.a_plain_number T.d_plain_number p_plain_number spNum := ok_plain_number T
  have G__law_inward : FnOk P w K mg base CX0 1 T.a__law_inward T.d__law_inward p__law_inward spPw := ok__law_inward T
  refine okG T.F__law_is_near sc__law_is_near (fun vs H Q E h => ?_) (fun cdv A outer s H vs Q hr hgd h => ?_)
  · obtain ⟨n, v, rfl, _⟩ := h
    rfl
  have hu := hu_of hr
  have hu64 := hr.units
  obtain ⟨n, v, rfl, h1, h2, hv, k⟩ := h
  refine ⟨_, (pss_cons (ps_set (i := 2) nd rfl (Or.inl rfl) (pe_ifExp (pt_cmpR op_lt (pe_op op_add (pv 1) pe_int) (pe_call G__law_power (hr.mono (by decide)) rfl T.m__law_power T.F__law_power.kp T.b__law_power .nil pass0 (pa_cons (pe_op op_sub (pv 0) pe_int) pa_nil)) (nomark _)) (pe_lst (pa_cons (pv 1) (pa_cons (pe_op op_add (pv 1) pe_int) pa_nil))) (pe_lst (pa_cons (pv 1) pa_nil))))
      (pss_cons (ps_set (i := 3) nd rfl (Or.inl rfl) (pe_lst pa_nil))
      (pss_cons (ps_for PassesOwn.never rfl (pi_list (pv 2)) (pg_name (i := 4) nd rfl (Or.inl rfl))
        (pss_cons (ps_set (i := 5) nd rfl (Or.inl rfl) (pe_call G_plain_at (hr.mono (by decide)) rfl T.m_plain_at T.F_plain_at.kp T.b_plain_at .nil passL (pa_cons (pv 0) (pa_cons (pv 4) pa_nil))))
      (pss_cons (ps_if (PW.pt (pw_or (pt_cmpR op_ne (pe_callB (call_repr hgd hu64) (by rfl) T.z_repr (by decide +kernel) (pa_cons (pv 5) pa_nil)) (pe_callB (call_repr hgd hu64) (by rfl) T.z_repr (by decide +kernel) (pa_cons (pe_call G__law_signed (hr.mono (by decide)) rfl T.m__law_signed T.F__law_signed.kp T.b__law_signed .nil pass0 (pa_cons (pe_call G__law_signs (hr.mono (by decide)) rfl T.m__law_signs T.F__law_signs.kp T.b__law_signs .nil pass0 (pa_cons (pv 4) (pa_cons (pe_op op_sub (pv 0) pe_int) pa_nil))) pa_nil)) pa_nil)) (nomark _)) (pw_or1 (pt_cmpR op_ne (pe_callB (call_repr hgd hu64) (by rfl) T.z_repr (by decide +kernel) (pa_cons (pe_call G_plain_number (hr.mono (by decide)) rfl T.m_plain_number T.F_plain_number.kp T.b_plain_number .nil pass0 (pa_cons (pv 5) pa_nil)) pa_nil)) (pe_callB (call_repr hgd hu64) (by rfl) T.z_repr (by decide +kernel) (pa_cons (pv 4) pa_nil)) (nomark _))))) (pss_one (ps_ret pe_bl)) pss_nil)
      (pss_one (ps_expr (pe_bm PySem.F.plainAttrs_list PySem.F.slot_list_append PySem.F.type_list_append mt_append (pv 3) (pa_cons (pe_ix ix_tup (pe_call G__law_inward (hr.mono (by decide)) rfl T.m__law_inward T.F__law_inward.kp T.b__law_inward .nil pass0 (pa_cons (pv 5) pa_nil)) pe_int (fun _ _ => rfl)) pa_nil)))))))
      (pss_cons (ps_if (PW.pt (pw_and (pt_cmpR op_eq (pe_callB call_len_seq (by rfl) T.z_len (by decide +kernel) (pa_cons (pv 3) pa_nil)) pe_int (nomark _)) (pw_and1 (pt_cmpR op_ge (pe_op op_mul (pe_ix ix_tup (pe_ix ix_list (pv 3) pe_int (fun _ _ => rfl)) pe_int (fun _ _ => rfl)) (pe_ix ix_tup (pe_ix ix_list (pv 3) pe_int (fun _ _ => rfl)) pe_int (fun _ _ => rfl))) (pe_op op_mul (pe_ix ix_tup (pe_ix ix_list (pv 3) pe_int (fun _ _ => rfl)) pe_int (fun _ _ => rfl)) (pe_ix ix_tup (pe_ix ix_list (pv 3) pe_int (fun _ _ => rfl)) pe_int (fun _ _ => rfl))) (nomark _))))) (pss_one (ps_ret pe_bl)) pss_nil)
      (pss_cons (ps_set (i := 6) nd rfl (Or.inl rfl) (pe_call G__law_signed (hr.mono (by decide)) rfl T.m__law_signed T.F__law_signed.kp T.b__law_signed .nil pass0 (pa_cons (pe_lc (own := [("_law_sign", 7)]) rfl nd (pi_list (pe_call G__law_signs (hr.mono (by decide)) rfl T.m__law_signs T.F__law_signs.kp T.b__law_signs .nil pass0 (pa_cons (pv 1) (pa_cons (pe_op op_sub (pv 0) pe_int) pa_nil)))) (blkOk_by (own := [("_law_sign", 7)]) (N := n__law_is_near) (sc := defScope s__law_is_near) (by decide +kernel)) (fun _ _ _ _ _ => (pg_name (i := 7) nd rfl (Or.inl rfl))) (fun _ _ _ _ _ => pts_nil) (fun _ _ _ _ _ => (pe_op op_sub pe_int (pv 7)))) pa_nil)))
      (pss_one (ps_ret (pe_cmpR op_eq (pe_kw G_plain_number (hr.mono (by decide)) rfl T.m_plain_number T.F_plain_number.kp T.kw_plain_number_shape pass0 (pk_cons (pv 6) pk_nil)) (pe_op op_sub (pe_op op_sub (pe_call G__law_power (hr.mono (by decide)) rfl T.m__law_power T.F__law_power.kp T.b__law_power .nil pass0 (pa_cons (pe_op op_sub (pv 0) pe_int) pa_nil)) pe_int) (pv 1)) (nomark _))))))))), ?_⟩
  have hz : (n : Int) - 1 = ((n - 1 : Nat) : Int) := by omega
  refine seq_cut (fun σ H' => ∃ (l : Addr) (xs : List Nat), σ = [some (.int (n : Int)), some (.int (v : Int)), some (.ref l), none, none, none, none, none] ∧ Same H H' ∧ H' l = some (.lst (nats xs)) ∧ (xs = [v, v + 1] ∧ v + 1 < 2 ^ (n - 1) ∨ xs = [v])) (fun N hN => ?_) ?_
  · refine ⟨_, rfl, _, _, rfl, rfl, _, rfl, _, _, rfl, rfl, n - 1, by dsimp only; rw [hz]; rfl, by omega, _, _, rfl, rfl, _, rfl, ?_⟩
    by_cases c : v + 1 < 2 ^ (n - 1)
    · rw [decide_eq_true (show (v : Int) + 1 < ((2 ^ (n - 1) : Nat) : Int) by omega)]
      refine iteT ⟨_, rfl, _, rfl, _, _, rfl, rfl, (by show 2 ≤ sizeLine; decide), fun l hl => hN _ _ ⟨l, [v, v + 1], rfl, same_upd _ hl, upd_same, .inl ⟨rfl, c⟩⟩⟩
    · rw [decide_eq_false (show ¬ (v : Int) + 1 < ((2 ^ (n - 1) : Nat) : Int) by omega)]
      refine iteF ⟨_, rfl, (by show 1 ≤ sizeLine; decide), fun l hl => hN _ _ ⟨l, [v], rfl, same_upd _ hl, upd_same, .inr rfl⟩⟩
  rintro σ H1 ⟨l, xs, rfl, e1, hl, hxs⟩
  refine seq_cut (fun σ H' => ∃ D : Addr, σ = [some (.int (n : Int)), some (.int (v : Int)), some (.ref l), some (.ref D), none, none, none, none] ∧ Same H1 H' ∧ H1 D = none ∧ H' D = some (.lst [])) (fun N hN => ?_) ?_
  · exact ⟨(by show 0 ≤ sizeLine; decide), fun D hD => hN _ _ ⟨D, rfl, same_upd _ hD, hD, upd_same⟩⟩
  rintro σ H2 ⟨D, rfl, e2, hD0, hD2⟩
  have hxv : ∀ x ∈ xs, x < 2 ^ (n - 1) := fun x hx => by
    rcases hxs with ⟨rfl, c⟩ | rfl
    · simp at hx
      omega
    · simp at hx
      omega
  have hxl : xs.length ≤ 2 := by
    rcases hxs with ⟨rfl, c⟩ | rfl <;> simp
  refine seq_cut (fun σ H' => ∃ (x4 x5 : Option V) (qs : List Addr), σ = [some (.int (n : Int)), some (.int (v : Int)), some (.ref l), some (.ref D), x4, x5, none, none] ∧ Same H1 H' ∧ H' D = some (.lst (qs.map V.ref)) ∧ Lvs H' qs (xs.map fun x => spr (bitsM (n - 1) x))) (fun N hN => ?_) ?_
  · refine ⟨_, rfl, l, rfl, ⟨_, SqL.of (e2 _ _ hl)⟩, ?_⟩
    refine for_list (K := K) (a := l) (xs := nats xs) (fun j σ H' => ∃ (x4 x5 : Option V) (qs : List Addr), σ = [some (.int (n : Int)), some (.int (v : Int)), some (.ref l), some (.ref D), x4, x5, none, none] ∧ Same H1 H' ∧ H' D = some (.lst (qs.map V.ref)) ∧ Lvs H' qs ((xs.take j).map fun x => spr (bitsM (n - 1) x))) ?_ ?_ ?_ ?_
    · exact ⟨none, none, [], rfl, e2, hD2, .nil⟩
    · rintro j σ H' _ ⟨x4, x5, qs, rfl, e, _⟩
      exact SqL.of (e _ _ hl)
    · rintro j z σ H3 hzj ⟨x4, x5, qs, rfl, e3, hD3, hL3⟩
      obtain ⟨y, hy, rfl⟩ := nats_get hzj
      have hyv := hxv y (List.mem_of_getElem? hy)
      have F := fit_of h1 h2 hyv
      have hql := hL3.len
      rw [List.length_map, List.length_take] at hql
      dsimp only [gName]
      have hShow := shows_shp F.low (by have := F.len; omega)
      generalize hG : plainN (stpOf (rle (bitsM (n - 1) y))) = L at F hShow
      refine seq_cut (fun σ H' => ∃ s : Addr, σ = [some (.int (n : Int)), some (.int (v : Int)), some (.ref l), some (.ref D), some (.int (y : Int)), some (.ref s), none, none] ∧ Same H3 H' ∧ ShAt H' s L) (fun N hN => ?_) ?_
      · exact ⟨_, rfl, _, rfl, n, _, rfl, h1, h2, .inl ⟨y, rfl, hyv, fun s H4 e4 hs => hN _ _ ⟨s, rfl, e4, by rw [← hG]; exact hs⟩⟩⟩
      rintro σ H4 ⟨s1, rfl, e4, hs4⟩
      refine seq_cut (fun σ H' => σ = [some (.int (n : Int)), some (.int (v : Int)), some (.ref l), some (.ref D), some (.int (y : Int)), some (.ref s1), none, none] ∧ Same H4 H') (fun N hN => ?_) ?_
      · refine if_cut (fun c H' => c = false ∧ Same H4 H') (fun Q' hQ => ?_) ?_ ?_
        · refine ⟨_, rfl, ?_⟩
          dsimp only [tNil]
          refine repr_go hs4.dp hShow ?_
          refine ⟨_, rfl, _, rfl, _, _, rfl, rfl, y, n - 1, by dsimp only; rw [hz]; rfl, by omega, fun p5 H5 e5 h5 => ⟨p5, _, rfl, h5, by rw [bits_len]; omega, fun t6 H6 e6 h6 => ?_⟩⟩
          rw [hG] at h6
          dsimp only [tNil]
          refine repr_go h6.dp hShow ?_
          refine ⟨rfl, _, rfl, ?_⟩
          rw [decide_eq_true rfl]
          refine iteF ⟨_, rfl, s1, L, rfl, (hs4.same e5).same e6, F.few, fun H7 e7 => ?_⟩
          rw [F.num]
          dsimp only [tNil]
          refine repr_go (.int _) (shows_one (Nat.lt_of_lt_of_le hyv (Nat.pow_le_pow_right (by decide) (by omega)))) ?_
          refine ⟨_, rfl, ?_⟩
          dsimp only [tNil]
          refine repr_go (.int _) (shows_one (Nat.lt_of_lt_of_le hyv (Nat.pow_le_pow_right (by decide) (by omega)))) ?_
          refine ⟨rfl, _, rfl, ?_⟩
          rw [decide_eq_true rfl]
          exact hQ _ _ ⟨rfl, e5.trans (e6.trans e7)⟩
        · rintro H' ⟨z, _⟩
          cases z
        · rintro H' ⟨_, e'⟩
          exact hN _ _ ⟨rfl, e'⟩
      rintro σ H5 ⟨rfl, e5⟩
      have hs5 := hs4.same e5
      have hD5 := e5 _ _ (e4 _ _ hD3)
      have hsum := F.sum
      have hlen := F.len
      refine ⟨_, rfl, .inl ⟨rfl, _, SqL.of hD5⟩, _, rfl, s1, L, rfl, hs5, F.ok, by omega, by omega, fun tt H6 e6 hW => ?_⟩
      obtain ⟨p1, p2, w0, w1, w2⟩ := hW.ex
      rw [F.a, F.b] at w1
      refine ⟨tt, _, _, _, rfl, rfl, SqT.of w0, at_of (j := 0) rfl rfl, ?_⟩
      have hD6 := e6 _ _ hD5
      refine ⟨D, _, _, rfl, rfl, hD6, ?_, ?_⟩
      · rw [List.length_map]
        exact Nat.lt_of_le_of_lt (m := 100) (by omega) (by decide)
      have kt : ∀ x o, H6 x = some (.tup o) → upd H6 D (.lst (qs.map V.ref ++ [.ref p1])) x = some (.tup o) := fun x o z => by
        rw [upd_ne (ne_of z hD6 (by intro y; cases y))]
        exact z
      have ea := e4.trans (e5.trans e6)
      refine ⟨_, _, qs ++ [p1], rfl, same_upd2 _ (e3.trans ea) hD0, by rw [upd_same, List.map_append]; rfl, ?_⟩
      rw [take_snoc hy, List.map_append]
      exact lvs_snoc (hL3.mono fun x o z => kt _ _ (ea _ _ z)) (kt _ _ w1)
    · rintro σ H3 ⟨x4, x5, qs, rfl, e3, hD3, hL3⟩
      rw [nats_len, List.take_length] at hL3
      exact hN _ _ ⟨x4, x5, qs, rfl, e3, hD3, hL3⟩
  rintro σ H3 ⟨x4, x5, qs, rfl, e3, hD3, hL3⟩
  have hql := hL3.len
  rw [List.length_map] at hql
  have spl : ∀ w, w < 2 ^ (n - 1) → (spr (bitsM (n - 1) w)).1 ≤ 1000000000 ∧ (spr (bitsM (n - 1) w)).2 ≤ 1000000000 := fun w hw => by
    have F := fit_of h1 h2 hw
    have := F.sum
    rw [F.a, F.b] at this
    omega
  refine seq_cut (fun σ H' => σ = [some (.int (n : Int)), some (.int (v : Int)), some (.ref l), some (.ref D), x4, x5, none, none] ∧ Same H3 H') (fun N hN => ?_) ?_
  · refine if_cut (fun c H' => c = false ∧ Same H3 H') (fun Q' hQ => ?_) ?_ ?_
    · refine ⟨_, rfl, D, _, rfl, .inl (SqL.of hD3), rfl, _, rfl, ?_⟩
      rcases hxs with ⟨rfl, c⟩ | rfl
      · rw [decide_eq_true (show V.int ((qs.map V.ref).length : Nat) = V.int 2 by rw [List.length_map, hql]; rfl)]
        have hlt := spr_lt (n - 1) v (v + 1) (by omega) c
        obtain ⟨s1, s2⟩ := spl v hv
        obtain ⟨s3, s4⟩ := spl (v + 1) c
        cases hL3 with
        | cons y1 r1 =>
          cases r1 with
          | cons y2 r2 =>
            dsimp only at y1 y2
            generalize spr (bitsM (n - 1) v) = f at hlt s1 s2 y1
            generalize spr (bitsM (n - 1) (v + 1)) = g at hlt s3 s4 y2
            refine iteT ⟨_, rfl, D, _, _, _, rfl, rfl, SqL.of hD3, at_of (j := 0) rfl rfl, _, _, _, _, rfl, rfl, SqT.of y1, at_of (j := 0) rfl rfl, _, rfl, D, _, _, _, rfl, rfl, SqL.of hD3, at_of (j := 1) rfl rfl, _, _, _, _, rfl, rfl, SqT.of y2, at_of (j := 1) rfl rfl, _, _, rfl, rfl, .inl ⟨by omega, by omega⟩, ?_⟩
            refine ⟨_, rfl, D, _, _, _, rfl, rfl, SqL.of hD3, at_of (j := 1) rfl rfl, _, _, _, _, rfl, rfl, SqT.of y2, at_of (j := 0) rfl rfl, _, rfl, D, _, _, _, rfl, rfl, SqL.of hD3, at_of (j := 0) rfl rfl, _, _, _, _, rfl, rfl, SqT.of y1, at_of (j := 1) rfl rfl, _, _, rfl, rfl, .inl ⟨by omega, by omega⟩, _, _, rfl, rfl, _, rfl, ?_⟩
            rw [decide_eq_false (show ¬ (g.1 : Int) * (f.2 : Int) ≤ (f.1 : Int) * (g.2 : Int) by rw [← Int.natCast_mul, ← Int.natCast_mul]; omega)]
            exact hQ _ _ ⟨rfl, Same.refl _⟩
      · rw [decide_eq_false (show ¬ V.int ((qs.map V.ref).length : Nat) = V.int 2 from fun z => by have := V.int.inj z; rw [List.length_map, hql] at this; cases this)]
        exact iteF (hQ _ _ ⟨rfl, Same.refl _⟩)
    · rintro H' ⟨z, _⟩
      cases z
    · rintro H' ⟨_, e'⟩
      exact hN _ _ ⟨rfl, e'⟩
  rintro σ H4 ⟨rfl, e4⟩
  have hb1 := bits_low (n - 1) v
  have hbl := bits_len (n - 1) v
  have hvt := val_turn (bitsM (n - 1) v) 0 0 hb1
  rw [val_bits, Nat.zero_mul, Nat.zero_add, Nat.mod_eq_of_lt hv, hbl] at hvt
  have ht1 : ∀ x ∈ (bitsM (n - 1) v).map (fun x => 1 - x), x ≤ 1 := fun x hx => by
    obtain ⟨y, _, rfl⟩ := List.mem_map.mp hx
    show 1 - y ≤ 1
    omega
  obtain ⟨t1, t2, t3, t4, t5, t6, t7⟩ := rle_facts ht1 (by rw [List.length_map, hbl]; omega)
  refine seq_cut (fun σ H' => ∃ (s : Addr) (x7 : Option V), σ = [some (.int (n : Int)), some (.int (v : Int)), some (.ref l), some (.ref D), x4, x5, some (.ref s), x7] ∧ Same H4 H' ∧ ShAt H' s (plainN (stpOf (rle ((bitsM (n - 1) v).map fun x => 1 - x))))) (fun N hN => ?_) ?_
  · refine ⟨_, rfl, _, rfl, _, _, rfl, rfl, v, n - 1, by dsimp only; rw [hz]; rfl, by omega, fun p5 H5 e5 h5 => ⟨p5, rfl, ⟨_, SqL.of h5⟩, fun D2 hD2n => ?_⟩⟩
    refine lc_list (K := K) (a := p5) (xs := nats (bitsM (n - 1) v)) (fun j H' => Same H5 H' ∧ H' D2 = some (.lst (nats (((bitsM (n - 1) v).take j).map fun x => 1 - x)))) ?_ ?_ ?_ ?_
    · exact ⟨same_upd _ hD2n, upd_same⟩
    · rintro j H' _ ⟨e, _⟩
      exact SqL.of (e _ _ h5)
    · rintro j z H' hzj ⟨e, hDs⟩
      obtain ⟨y, hy, rfl⟩ := nats_get hzj
      have hy1 := hb1 y (List.mem_of_getElem? hy)
      have hj := (List.getElem?_eq_some_iff.mp hy).1
      rw [hbl] at hj
      refine ⟨rfl, _, rfl, _, _, rfl, rfl, _, hDs, ?_, same_upd2 _ e hD2n, ?_⟩
      · rw [nats_len, List.length_map, List.length_take]
        exact Nat.lt_of_le_of_lt (m := 100) (by omega) (by decide)
      · rw [upd_same, take_snoc hy, List.map_append]
        exact congrArg (fun q => some (HO.lst q)) (nats_snoc (by show (1 : Int) - (y : Int) = ((1 - y : Nat) : Int); omega))
    · rintro H' ⟨e, hDs⟩
      rw [nats_len, List.take_length] at hDs
      exact ⟨D2, _, rfl, hDs, by rw [List.length_map, hbl]; omega, fun t6 H6 e6 h6 => hN _ _ ⟨t6, _, rfl, e5.trans (e.trans e6), h6⟩⟩
  rintro σ H5 ⟨s1, x7, rfl, e5, hs5⟩
  refine ⟨_, rfl, rfl, s1, _, rfl, hs5, fun x hx => by have := t2 x hx; omega, fun H6 e6 => ?_⟩
  rw [t7]
  refine ⟨_, rfl, _, _, rfl, rfl, n - 1, by dsimp only; rw [hz]; rfl, by omega, _, _, rfl, rfl, _, rfl, _, _, rfl, rfl, rfl, ?_⟩
  rw [decide_eq_true]
  · exact k _ (e1.trans (e3.trans (e4.trans (e5.trans e6))))
  · congr 1
    omega

/-! ### the law *--/
def spLaw (K : PySem.W.Frag) : Sp := fun vs H Q _ => ∃ (a : Addr) (ns : List Int), vs = [.ref a] ∧ SqL K H a (ns.map V.int) ∧ ns.length ≤ 63 ∧ ∀ H', Q (.bl true) H'
theorem shows_l2 {m n : Nat} (h1 : m < 2 ^ 64) (h2 : n < 2 ^ 64) : Shows (.list [.int (m : Int), .int (n : Int)]) := by
  have a1 := able_int (i := (m : Int)) (by omega)
  have a2 := able_int (i := (n : Int)) (by omega)
  refine shows_mk (by simp only [PyData.showable, PyData.showableAll] at a1 a2 ⊢; rw [a1, a2]; rfl) (by simp [PyData.hasDict, PyData.hasDictAll]) (by simp [PyData.depth, PyData.depthAll]) (by simp [Own.cost, Own.costs])
def BadV (n : Nat) (b g : Addr) (H : Hp) (v : V) : Prop := (∃ i, v = .int i ∧ Bad n i) ∨ (∃ x, v = .bl x) ∨ v = .non ∨ (∃ s, v = .str s) ∨ (∃ a xs, v = .ref a ∧ H a = some (.tup xs)) ∨ (∃ a xs, v = .ref a ∧ a ≠ b ∧ a ≠ g ∧ H a = some (.lst xs)) ∨ (∃ a kvs, v = .ref a ∧ a ≠ b ∧ a ≠ g ∧ H a = some (.dK kvs))
theorem BadV.keep {n : Nat} {b g : Addr} {H H' : Hp} {v : V} (h : BadV n b g H v) (B : Bag H b g) (k : Keep b g H H') : BadV n b g H' v := by
  rcases h with h | h | h | h | ⟨a, xs, e, h⟩ | ⟨a, xs, e, n1, n2, h⟩ | ⟨a, xs, e, n1, n2, h⟩
  · exact .inl h
  · exact .inr (.inl h)
  · exact .inr (.inr (.inl h))
  · exact .inr (.inr (.inr (.inl h)))
  · exact .inr (.inr (.inr (.inr (.inl ⟨a, xs, e, k.kt B _ _ h⟩))))
  · exact .inr (.inr (.inr (.inr (.inr (.inl ⟨a, xs, e, n1, n2, k _ _ n1 n2 h⟩)))))
  · exact .inr (.inr (.inr (.inr (.inr (.inr ⟨a, xs, e, n1, n2, k _ _ n1 n2 h⟩)))))
theorem BadV.kd {n : Nat} {b g : Addr} {H : Hp} {v : V} (h : BadV n b g H v) : Kd K H v false ∨ ∃ i : Int, v = .int i ∧ Bad n i := by
  rcases h with h | ⟨x, rfl⟩ | rfl | ⟨s, rfl⟩ | ⟨a, xs, rfl, h⟩ | ⟨a, xs, rfl, n1, n2, h⟩ | ⟨a, xs, rfl, n1, n2, h⟩
  · exact .inr h
  · exact .inl (kd_bl x)
  · exact .inl kd_non
  · exact .inl (kd_str s)
  · exact .inl (kd_tup h)
  · exact .inl (kd_lst h)
  · exact .inl (kd_dK h)
theorem Keep.new_at {b g D : Addr} {H H' : Hp} (o : HO) (k : Keep b g H H') (hD : H D = none) : Keep b g H (upd H' D o) := fun a u n1 n2 h => by
  rw [upd_ne (ne_of_none h hD)]
  exact k a u n1 n2 h
theorem Bag.off_upd {b g D : Addr} {H : Hp} (o : HO) (B : Bag H b g) (n1 : D ≠ b) (n2 : D ≠ g) : Bag (upd H D o) b g := by
  obtain ⟨ms, mi, y1, y2, y3⟩ := B.ex
  exact ⟨ms, mi, by rw [upd_ne n1.symm]; exact y1, by rw [upd_ne n2.symm]; exact y2, y3⟩
theorem ok_law (T : Cd K mg) : FnG P w K mg base 4 T.a_law T.d_law p_law (spLaw K) := by
  have nd : (n_law : List Str).Nodup := sc_law.nd
  have G__law_urn : FnOk P w K mg base CX0 1 T.a__law_urn T.d__law_urn p__law_urn (spBag K) := ok__law_urn T
  have G__law_take : FnOk P w K mg base CX0 1 T.a__law_take T.d__law_take p__law_take spDraw := ok__law_take T
  have G__law_pick : FnOk P w K mg base CX0 2 T.a__law_pick T.d__law_pick p__law_pick spPickV := ok__law_pick T
  have G__law_power : FnOk P w K mg base CX0 1 T.a__law_power T.d__law_power p__law_power spPower := ok__law_power T
  have G_plain_count : FnOk P w K mg base CX0 1 T.a_plain_count T.d_plain_count p_plain_count spCount := ok_plain_count T
  have G_plain_at : FnOk P w K mg base (L2.CX P w) 2 T.a_plain_at T.d_plain_at p_plain_at (spAt K T.c_Unfit) := ok_plain_at T
  have G__law_signed : FnOk P w K mg base CX0 1 T.a__law_signed T.d__law_signed p__law_signed spSigned := ok__law_signed T
  have G__law_signs : FnOk P w K mg base CX0 1 T.a__law_signs T.d__law_signs p__law_signs spSigns := ok__law_signs T
  have G_plain_number : FnOk P w K mg base CX0 1 T.a_plain_number T.d_plain_number p_plain_number spNum := ok_plain_number T
  have G__law_inward : FnOk P w K mg base CX0 1 T.a__law_inward T.d__law_inward p__law_inward spPw := ok__law_inward T
  have G__law_is_near : FnG P w K mg base 3 T.a__law_is_near T.d__law_is_near p__law_is_near spNear := ok__law_is_near T
  have G__law_word : FnOk P w K mg base CX0 3 T.a__law_word T.d__law_word p__law_word (spWord K) := ok__law_word T
  refine okG T.F_law sc_law (fun vs H Q E h => ?_) (fun cdv A outer s H vs Q hr hgd h => ?_)
  · obtain ⟨a, ns, rfl, _⟩ := h
    rfl
  have hu := hu_of hr
  have hu64 := hr.units
  obtain ⟨a, ns, rfl, hS, hn, k⟩ := h
  refine ⟨_, (pss_cons (ps_set (i := 1) nd rfl (Or.inr rfl) (pe_call G__law_urn (hr.mono (by decide)) rfl T.m__law_urn T.F__law_urn.kp T.b__law_urn .nil pass0 (pa_cons (pv 0) pa_nil)))
      (pss_cons (ps_set (i := 2) nd rfl (Or.inl rfl) (pe_ifExp (pt_cmpR op_gt (pe_call G__law_take (hr.mono (by decide)) rfl T.m__law_take T.F__law_take.kp T.b__law_take .nil pass0 (pa_cons (pv 1) (pa_cons pe_int pa_nil))) pe_int (nomark _)) (pe_op op_add pe_int (pe_call G__law_take (hr.mono (by decide)) rfl T.m__law_take T.F__law_take.kp T.b__law_take .nil pass0 (pa_cons (pv 1) (pa_cons pe_int pa_nil)))) pe_int))
      (pss_cons (ps_par (i := 3) (j := 4) (by rfl) nd rfl rfl (by decide) rfl rfl (pa_cons (pe_call G__law_power (hr.mono (by decide)) rfl T.m__law_power T.F__law_power.kp T.b__law_power .nil pass0 (pa_cons (pe_op op_sub (pv 2) pe_int) pa_nil)) (pa_cons (pe_tup (pa_cons pe_int (pa_cons pe_int pa_nil))) pa_nil)) (by rfl))
      (pss_cons (ps_if (pt_cmpR op_ne (pe_callB (call_repr hgd hu64) (by rfl) T.z_repr (by decide +kernel) (pa_cons (pe_lst (pa_cons (pe_call G_plain_count (hr.mono (by decide)) rfl T.m_plain_count T.F_plain_count.kp T.b_plain_count .nil pass0 (pa_cons (pv 2) pa_nil)) (pa_cons (pe_kw G_plain_count (hr.mono (by decide)) rfl T.m_plain_count T.F_plain_count.kp T.kw_plain_count_n pass0 (pk_cons pe_int pk_nil)) pa_nil))) pa_nil)) (pe_callB (call_repr hgd hu64) (by rfl) T.z_repr (by decide +kernel) (pa_cons (pe_lst (pa_cons (pv 3) (pa_cons (pe_call G__law_power (hr.mono (by decide)) rfl T.m__law_power T.F__law_power.kp T.b__law_power .nil pass0 (pa_cons pe_int pa_nil)) pa_nil))) pa_nil)) (nomark _)) (pss_one (ps_ret pe_bl)) pss_nil)
      (pss_cons (ps_for PassesOwn.never rfl (pi_range1 rfl T.z_range (pa_cons (pv 3) pa_nil)) (pg_name (i := 5) nd rfl (Or.inl rfl))
        (pss_cons (ps_set (i := 6) nd rfl (Or.inl rfl) (pe_call G_plain_at (hr.mono (by decide)) rfl T.m_plain_at T.F_plain_at.kp T.b_plain_at .nil passL (pa_cons (pv 2) (pa_cons (pv 5) pa_nil))))
      (pss_cons (ps_asg (pe_ix ix_tup (pe_call G__law_inward (hr.mono (by decide)) rfl T.m__law_inward T.F__law_inward.kp T.b__law_inward .nil pass0 (pa_cons (pv 6) pa_nil)) pe_int (fun _ _ => rfl)) (pg_tup rfl (pgs_cons (pg_name (i := 7) nd rfl (Or.inl rfl)) (pgs_cons (pg_name (i := 8) nd rfl (Or.inl rfl)) pgs_nil))))
      (pss_cons (ps_if (PW.pt (pw_or (pt_cmpR op_ne (pe_callB (call_repr hgd hu64) (by rfl) T.z_repr (by decide +kernel) (pa_cons (pv 6) pa_nil)) (pe_callB (call_repr hgd hu64) (by rfl) T.z_repr (by decide +kernel) (pa_cons (pe_call G__law_signed (hr.mono (by decide)) rfl T.m__law_signed T.F__law_signed.kp T.b__law_signed .nil pass0 (pa_cons (pe_call G__law_signs (hr.mono (by decide)) rfl T.m__law_signs T.F__law_signs.kp T.b__law_signs .nil pass0 (pa_cons (pv 5) (pa_cons (pe_op op_sub (pv 2) pe_int) pa_nil))) pa_nil)) pa_nil)) (nomark _)) (pw_or1 (pt_cmpR op_ge (pe_op op_mul (pe_ix ix_tup (pv 4) pe_int (fun _ _ => rfl)) (pv 8)) (pe_op op_mul (pv 7) (pe_ix ix_tup (pv 4) pe_int (fun _ _ => rfl))) (nomark _))))) (pss_one (ps_ret pe_bl)) pss_nil)
      (pss_cons (ps_if (pt_cmpR op_ne (pe_callB (call_repr hgd hu64) (by rfl) T.z_repr (by decide +kernel) (pa_cons (pe_call G_plain_number (hr.mono (by decide)) rfl T.m_plain_number T.F_plain_number.kp T.b_plain_number .nil pass0 (pa_cons (pv 6) pa_nil)) pa_nil)) (pe_callB (call_repr hgd hu64) (by rfl) T.z_repr (by decide +kernel) (pa_cons (pv 5) pa_nil)) (nomark _)) (pss_one (ps_ret pe_bl)) pss_nil)
      (pss_one (ps_set (i := 4) nd rfl (Or.inl rfl) (pe_tup (pa_cons (pv 7) (pa_cons (pv 8) pa_nil))))))))))
      (pss_cons (ps_for PassesOwn.never rfl (pi_range1 rfl T.z_range (pa_cons pe_int pa_nil)) (pg_name (i := 9) nd rfl (Or.inl rfl))
        (pss_cons (ps_set (i := 2) nd rfl (Or.inl rfl) (pe_op op_add pe_int (pe_call G__law_take (hr.mono (by decide)) rfl T.m__law_take T.F__law_take.kp T.b__law_take .nil pass0 (pa_cons (pv 1) (pa_cons pe_int pa_nil)))))
      (pss_cons (ps_set (i := 3) nd rfl (Or.inl rfl) (pe_call G__law_power (hr.mono (by decide)) rfl T.m__law_power T.F__law_power.kp T.b__law_power .nil pass0 (pa_cons (pe_op op_sub (pv 2) pe_int) pa_nil)))
      (pss_cons (ps_set (i := 5) nd rfl (Or.inl rfl) (pe_call G__law_pick (hr.mono (by decide)) rfl T.m__law_pick T.F__law_pick.kp T.b__law_pick .nil pass0 (pa_cons (pv 1) (pa_cons (pe_lst (pa_cons pe_int (pa_cons (pe_op op_sub (pv 3) pe_int) (pa_cons (pe_op op_fdiv (pv 3) pe_int) (pa_cons (pe_op op_sub (pe_op op_fdiv (pv 3) pe_int) pe_int) (pa_cons (pe_call G__law_take (hr.mono (by decide)) rfl T.m__law_take T.F__law_take.kp T.b__law_take .nil pass0 (pa_cons (pv 1) (pa_cons (pv 3) pa_nil))) (pa_cons (pe_call G__law_take (hr.mono (by decide)) rfl T.m__law_take T.F__law_take.kp T.b__law_take .nil pass0 (pa_cons (pv 1) (pa_cons (pv 3) pa_nil))) pa_nil))))))) pa_nil))))
      (pss_one (ps_if (pt_not (pt_val (pe_callG G__law_is_near (hr.mono (by decide)) hgd rfl T.m__law_is_near T.F__law_is_near.kp T.b__law_is_near (pa_cons (pv 2) (pa_cons (pv 5) pa_nil))))) (pss_one (ps_ret pe_bl)) pss_nil))))))
      (pss_cons (ps_set (i := 10) nd rfl (Or.inr rfl) (pe_lst (pa_cons (pv 3) (pa_cons (pe_un un_neg pe_int) (pa_cons (pe_op op_add (pv 3) (pe_call G__law_take (hr.mono (by decide)) rfl T.m__law_take T.F__law_take.kp T.b__law_take .nil pass0 (pa_cons (pv 1) (pa_cons pe_int pa_nil)))) (pa_cons pe_bl (pa_cons pe_bl (pa_cons pe_non (pa_cons pe_str (pa_cons (pe_tup (pa_cons pe_int pa_nil)) (pa_cons (pe_lst (pa_cons pe_int pa_nil)) (pa_cons pe_dnewK (pa_cons (pe_un un_neg (pv 3)) pa_nil)))))))))))))
      (pss_cons (ps_for PassesOwn.never rfl (pi_list (pe_lc (own := [("_law_turn", 9)]) rfl nd (pi_range1 rfl T.z_range (pa_cons pe_int pa_nil)) (blkOk_by (own := [("_law_turn", 9)]) (N := n_law) (sc := defScope s_law) (by decide +kernel)) (fun _ _ _ _ _ => (pg_name (i := 9) nd rfl (Or.inl rfl))) (fun _ _ _ _ _ => pts_nil) (fun _ _ _ _ _ => (pe_call G__law_pick (hr.mono (by decide)) rfl T.m__law_pick T.F__law_pick.kp T.b__law_pick .nil pass0 (pa_cons (pv 1) (pa_cons (pv 10) pa_nil)))))) (pg_name (i := 11) nd rfl (Or.inl rfl))
        (pss_one (ps_if (pt_cmpR op_ne (pe_call G__law_word (hr.mono (by decide)) rfl T.m__law_word T.F__law_word.kp T.b__law_word .nil pass0 (pa_cons (pv 2) (pa_cons (pv 11) pa_nil))) pe_str (nomark _)) (pss_one (ps_ret pe_bl)) pss_nil)))
      (pss_cons (ps_if (pt_cmpR (op_neD hu64) (pe_lc (own := [("_law_value", 11)]) rfl nd (pi_list (pe_lst (pa_cons pe_int (pa_cons (pe_un un_neg pe_int) (pa_cons pe_bl (pa_cons pe_bl (pa_cons pe_non (pa_cons pe_str pa_nil)))))))) (blkOk_by (own := [("_law_value", 11)]) (N := n_law) (sc := defScope s_law) (by decide +kernel)) (fun _ _ _ _ _ => (pg_name (i := 11) nd rfl (Or.inl rfl))) (fun _ _ _ _ _ => (pts_one (pt_cmpR op_ne (pe_call G__law_word (hr.mono (by decide)) rfl T.m__law_word T.F__law_word.kp T.b__law_word .nil pass0 (pa_cons pe_int (pa_cons (pv 11) pa_nil))) pe_str (nomark _)))) (fun _ _ _ _ _ => pe_int)) (pe_lst pa_nil) (nomark _)) (pss_one (ps_ret pe_bl)) pss_nil)
      (pss_one (ps_ret (pe_cmpR op_eq (pe_callB (call_repr hgd hu64) (by rfl) T.z_repr (by decide +kernel) (pa_cons (pe_lst (pa_cons (pe_kw G_plain_at (hr.mono (by decide)) rfl T.m_plain_at T.F_plain_at.kp T.kw_plain_at_value_n passL (pk_cons pe_int (pk_cons pe_int pk_nil))) (pa_cons (pe_call G_plain_number (hr.mono (by decide)) rfl T.m_plain_number T.F_plain_number.kp T.b_plain_number .nil pass0 (pa_cons (pe_tup (pa_cons (pe_tup (pa_cons pe_int (pa_cons pe_int pa_nil))) pa_nil)) pa_nil)) pa_nil))) pa_nil)) (pe_callB (call_repr hgd hu64) (by rfl) T.z_repr (by decide +kernel) (pa_cons (pe_lst (pa_cons (pe_tup (pa_cons (pe_tup (pa_cons pe_int (pa_cons pe_int pa_nil))) (pa_cons (pe_tup (pa_cons pe_int (pa_cons pe_int pa_nil))) (pa_cons (pe_tup (pa_cons pe_int (pa_cons pe_int pa_nil))) pa_nil)))) (pa_cons pe_int pa_nil))) pa_nil)) (nomark _))))))))))))), ?_⟩
  refine seq_cut (fun σ H' => ∃ b g : Addr, σ = [some (.ref a), some (.ref b), none, none, none, none, none, none, none, none, none, none] ∧ Bag H' b g) (fun N hN => ?_) ?_
  · exact ⟨_, rfl, a, ns, rfl, hS, fun b g H' _ _ _ B => hN _ _ ⟨b, g, rfl, B⟩⟩
  rintro σ H1 ⟨b, g, rfl, B1⟩
  refine seq_cut (fun σ H' => ∃ n : Nat, σ = [some (.ref a), some (.ref b), some (.int (n : Int)), none, none, none, none, none, none, none, none, none] ∧ 1 ≤ n ∧ n ≤ 7 ∧ Bag H' b g) (fun N hN => ?_) ?_
  · refine ⟨_, rfl, b, g, 4, rfl, B1, by decide, by decide, fun r H2 r0 r1 k2 B2 => ⟨_, _, rfl, rfl, _, rfl, ?_⟩⟩
    by_cases c : (0 : Int) < r
    · rw [decide_eq_true c]
      refine iteT ⟨_, rfl, b, g, 6, rfl, B2, by decide, by decide, fun q H3 q0 q1 k3 B3 => ⟨_, _, rfl, rfl, ?_⟩⟩
      have q1 := q1 (by decide)
      refine hN _ _ ⟨(1 + q).toNat, ?_, by omega, by omega, B3⟩
      rw [show (((1 + q).toNat : Nat) : Int) = 1 + q by omega]
      rfl
    · rw [decide_eq_false c]
      exact iteF (hN _ _ ⟨7, rfl, by decide, by decide, B2⟩)
  rintro σ H2 ⟨n, rfl, n1, n2, B2⟩
  have hz : (n : Int) - 1 = ((n - 1 : Nat) : Int) := by omega
  have hM2 : 2 ^ (n - 1) ≤ 2 ^ 6 := Nat.pow_le_pow_right (by decide) (by omega)
  refine seq_cut (fun σ H' => ∃ t : Addr, σ = [some (.ref a), some (.ref b), some (.int (n : Int)), some (.int ((2 ^ (n - 1) : Nat) : Int)), some (.ref t), none, none, none, none, none, none, none] ∧ Bag H' b g ∧ H' t = some (.tup [.int 0, .int 1])) (fun N hN => ?_) ?_
  · exact ⟨_, rfl, _, _, rfl, rfl, n - 1, by dsimp only; rw [hz]; rfl, by omega, (by show 2 ≤ sizeLine; decide), fun t ht => ⟨_, _, rfl, hN _ _ ⟨t, rfl, B2.same (same_upd _ ht), upd_same⟩⟩⟩
  rintro σ H3 ⟨t, rfl, B3, ht3⟩
  refine seq_cut (fun σ H' => σ = [some (.ref a), some (.ref b), some (.int (n : Int)), some (.int ((2 ^ (n - 1) : Nat) : Int)), some (.ref t), none, none, none, none, none, none, none] ∧ Same H3 H') (fun N hN => ?_) ?_
  · refine if_cut (fun c H' => c = false ∧ Same H3 H') (fun Q' hQ => ?_) ?_ ?_
    · have sh : Shows (.list [.int ((2 ^ (n - 1) : Nat) : Int), .int ((2 ^ 23 : Nat) : Int)]) := shows_l2 (Nat.lt_of_le_of_lt hM2 (by decide)) (by decide)
      refine ⟨_, rfl, n, rfl, n1, by omega, rfl, 24, rfl, by decide, by decide, (by show 2 ≤ sizeLine; decide), fun p hp => ?_⟩
      have e1 := same_upd (.lst [.int ((2 ^ (n - 1) : Nat) : Int), .int ((2 ^ (24 - 1) : Nat) : Int)]) hp
      dsimp only [tNil]
      refine repr_go (d := .list [.int ((2 ^ (n - 1) : Nat) : Int), .int ((2 ^ 23 : Nat) : Int)]) (.lst (SqL.of upd_same) (.cons (.int _) (.cons (.int _) .nil))) sh ?_
      refine ⟨_, rfl, 23, rfl, by decide, (by show 2 ≤ sizeLine; decide), fun q hq => ?_⟩
      have e2 := same_upd (.lst [.int ((2 ^ (n - 1) : Nat) : Int), .int ((2 ^ 23 : Nat) : Int)]) hq
      dsimp only [tNil]
      refine repr_go (d := .list [.int ((2 ^ (n - 1) : Nat) : Int), .int ((2 ^ 23 : Nat) : Int)]) (.lst (SqL.of upd_same) (.cons (.int _) (.cons (.int _) .nil))) sh ?_
      refine ⟨rfl, _, rfl, ?_⟩
      rw [decide_eq_true rfl]
      exact hQ _ _ ⟨rfl, e1.trans e2⟩
    · rintro H' ⟨z, _⟩
      cases z
    · rintro H' ⟨_, e'⟩
      exact hN _ _ ⟨rfl, e'⟩
  rintro σ H4 ⟨rfl, e4⟩
  have B4 := B3.same e4
  have ht4 := e4 _ _ ht3
  refine seq_cut (fun σ H' => ∃ x4 x5 x6 x7 x8 : Option V, σ = [some (.ref a), some (.ref b), some (.int (n : Int)), some (.int ((2 ^ (n - 1) : Nat) : Int)), x4, x5, x6, x7, x8, none, none, none] ∧ Same H4 H') (fun N hN => ?_) ?_
  · refine ⟨_, rfl, _, rfl, Int.le_trans (by decide : -(2 : Int) ^ 62 ≤ 0) (Int.natCast_nonneg _), Int.lt_of_le_of_lt (Int.ofNat_le.mpr hM2) (by decide), for_range (lo := 0) (n := ((2 ^ (n - 1) : Nat) : Int).toNat) (fun j σ H' => ∃ (t : Addr) (x5 x6 x7 x8 : Option V) (f : Nat × Nat), σ = [some (.ref a), some (.ref b), some (.int (n : Int)), some (.int ((2 ^ (n - 1) : Nat) : Int)), some (.ref t), x5, x6, x7, x8, none, none, none] ∧ Same H4 H' ∧ H' t = some (.tup [.int (f.1 : Int), .int (f.2 : Int)]) ∧ f = (if j = 0 then (0, 1) else spr (bitsM (n - 1) (j - 1)))) ?_ ?_ ?_⟩
    · exact ⟨t, _, _, _, _, (0, 1), rfl, Same.refl _, ht4, rfl⟩
    · rintro j σ H5 hj ⟨t, x5, x6, x7, x8, f, rfl, e5, ht5, hf⟩
      have hj' : j < 2 ^ (n - 1) := by omega
      have F := fit_of n1 (by omega) hj'
      have hShow := shows_shp F.low (by have := F.len; omega)
      have hsum := F.sum
      rw [F.a, F.b] at hsum
      have hfl : f.1 * (spr (bitsM (n - 1) j)).2 < (spr (bitsM (n - 1) j)).1 * f.2 ∧ f.1 ≤ 1000000000 ∧ f.2 ≤ 1000000000 := by
        obtain ⟨q1, q2⟩ := spr_pos (bitsM (n - 1) j)
        rw [hf]
        by_cases c : j = 0
        · rw [if_pos c]
          dsimp only
          omega
        · rw [if_neg c]
          have F2 := fit_of (v := j - 1) n1 (by omega) (by omega)
          have s2 := F2.sum
          rw [F2.a, F2.b] at s2
          exact ⟨spr_lt _ _ _ (by omega) hj', by omega, by omega⟩
      obtain ⟨hfl1, hfl2, hfl3⟩ := hfl
      generalize hG : plainN (stpOf (rle (bitsM (n - 1) j))) = L at F hShow
      have hz0 : (0 : Int) + (j : Nat) = ((j : Nat) : Int) := by omega
      rw [hz0]
      dsimp only [gName]
      refine seq_cut (fun σ H' => ∃ s : Addr, σ = [some (.ref a), some (.ref b), some (.int (n : Int)), some (.int ((2 ^ (n - 1) : Nat) : Int)), some (.ref t), some (.int (j : Int)), some (.ref s), x7, x8, none, none, none] ∧ Same H5 H' ∧ ShAt H' s L) (fun N hN => ?_) ?_
      · exact ⟨_, rfl, _, rfl, n, _, rfl, n1, by omega, .inl ⟨j, rfl, hj', fun s H6 e6 hs => hN _ _ ⟨s, rfl, e6, by rw [← hG]; exact hs⟩⟩⟩
      rintro σ H6 ⟨s1, rfl, e6, hs6⟩
      have hsm := F.sum
      have hlen := F.len
      refine seq_cut (fun σ H' => σ = [some (.ref a), some (.ref b), some (.int (n : Int)), some (.int ((2 ^ (n - 1) : Nat) : Int)), some (.ref t), some (.int (j : Int)), some (.ref s1), some (.int ((spr (bitsM (n - 1) j)).1 : Int)), some (.int ((spr (bitsM (n - 1) j)).2 : Int)), none, none, none] ∧ Same H6 H') (fun N hN => ?_) ?_
      · refine ⟨_, rfl, s1, L, rfl, hs6, F.ok, by omega, by omega, fun tt H7 e7 hW => ?_⟩
        obtain ⟨p1, p2, w0, w1, w2⟩ := hW.ex
        rw [F.a, F.b] at w1
        exact ⟨tt, _, _, _, rfl, rfl, SqT.of w0, at_of (j := 0) rfl rfl, p1, _, rfl, SqT.of w1, rfl, _, _, rfl, _, _, rfl, rfl, hN _ _ ⟨rfl, e7⟩⟩
      rintro σ H7 ⟨rfl, e7⟩
      have hs7 := hs6.same e7
      have ht7 := e7 _ _ (e6 _ _ ht5)
      refine seq_cut (fun σ H' => σ = [some (.ref a), some (.ref b), some (.int (n : Int)), some (.int ((2 ^ (n - 1) : Nat) : Int)), some (.ref t), some (.int (j : Int)), some (.ref s1), some (.int ((spr (bitsM (n - 1) j)).1 : Int)), some (.int ((spr (bitsM (n - 1) j)).2 : Int)), none, none, none] ∧ Same H7 H') (fun N hN => ?_) ?_
      · refine if_cut (fun c H' => c = false ∧ Same H7 H') (fun Q' hQ => ?_) ?_ ?_
        · refine ⟨_, rfl, ?_⟩
          dsimp only [tNil]
          refine repr_go hs7.dp hShow ?_
          refine ⟨_, rfl, _, rfl, _, _, rfl, rfl, j, n - 1, by dsimp only; rw [hz]; rfl, by omega, fun p5 H8 e8 h8 => ⟨p5, _, rfl, h8, by rw [bits_len]; omega, fun t6 H9 e9 h9 => ?_⟩⟩
          rw [hG] at h9
          dsimp only [tNil]
          refine repr_go h9.dp hShow ?_
          refine ⟨rfl, _, rfl, ?_⟩
          rw [decide_eq_true rfl]
          have ht9 := e9 _ _ (e8 _ _ ht7)
          refine iteF ⟨_, rfl, t, _, _, _, rfl, rfl, SqT.of ht9, at_of (j := 0) rfl rfl, _, rfl, _, _, rfl, rfl, .inl ⟨by omega, by omega⟩, _, rfl, _, rfl, t, _, _, _, rfl, rfl, SqT.of ht9, at_of (j := 1) rfl rfl, _, _, rfl, rfl, .inl ⟨by omega, by omega⟩, _, _, rfl, rfl, _, rfl, ?_⟩
          rw [decide_eq_false (show ¬ ((spr (bitsM (n - 1) j)).1 : Int) * (f.2 : Int) ≤ (f.1 : Int) * ((spr (bitsM (n - 1) j)).2 : Int) by rw [← Int.natCast_mul, ← Int.natCast_mul]; omega)]
          exact hQ _ _ ⟨rfl, e8.trans e9⟩
        · rintro H' ⟨z, _⟩
          cases z
        · rintro H' ⟨_, e'⟩
          exact hN _ _ ⟨rfl, e'⟩
      rintro σ H8 ⟨rfl, e8⟩
      have hs8 := hs7.same e8
      refine seq_cut (fun σ H' => σ = [some (.ref a), some (.ref b), some (.int (n : Int)), some (.int ((2 ^ (n - 1) : Nat) : Int)), some (.ref t), some (.int (j : Int)), some (.ref s1), some (.int ((spr (bitsM (n - 1) j)).1 : Int)), some (.int ((spr (bitsM (n - 1) j)).2 : Int)), none, none, none] ∧ Same H8 H') (fun N hN => ?_) ?_
      · refine if_cut (fun c H' => c = false ∧ Same H8 H') (fun Q' hQ => ?_) ?_ ?_
        · refine ⟨_, rfl, s1, L, rfl, hs8, F.few, fun H9 e9 => ?_⟩
          rw [F.num]
          dsimp only [tNil]
          refine repr_go (.int _) (shows_one (by omega)) ?_
          refine ⟨_, rfl, ?_⟩
          dsimp only [tNil]
          refine repr_go (.int _) (shows_one (by omega)) ?_
          refine ⟨rfl, _, rfl, ?_⟩
          rw [decide_eq_true rfl]
          exact hQ _ _ ⟨rfl, e9⟩
        · rintro H' ⟨z, _⟩
          cases z
        · rintro H' ⟨_, e'⟩
          exact hN _ _ ⟨rfl, e'⟩
      rintro σ H9 ⟨rfl, e9⟩
      refine ⟨_, rfl, _, rfl, (by show 2 ≤ sizeLine; decide), fun t2 ht2 => ?_⟩
      exact ⟨t2, _, _, _, _, spr (bitsM (n - 1) j), rfl, e5.trans (e6.trans (e7.trans (e8.trans (e9.trans (same_upd _ ht2))))), upd_same, by rw [if_neg (by omega), show j + 1 - 1 = j by omega]⟩
    · rintro σ H5 ⟨t, x5, x6, x7, x8, f, rfl, e5, _, _⟩
      exact hN _ _ ⟨_, _, _, _, _, rfl, e5⟩
  rintro σ H5 ⟨x4, x5, x6, x7, x8, rfl, e5⟩
  have B5 := B4.same e5
  refine seq_cut (fun σ H' => ∃ (n : Nat) (x5 x9 : Option V), σ = [some (.ref a), some (.ref b), some (.int (n : Int)), some (.int ((2 ^ (n - 1) : Nat) : Int)), x4, x5, x6, x7, x8, x9, none, none] ∧ 1 ≤ n ∧ n ≤ 24 ∧ Bag H' b g) (fun N hN => ?_) ?_
  · refine ⟨6, rfl, by decide, by decide, for_range (lo := 0) (n := 6) (fun i σ H' => ∃ (n : Nat) (x5 x9 : Option V), σ = [some (.ref a), some (.ref b), some (.int (n : Int)), some (.int ((2 ^ (n - 1) : Nat) : Int)), x4, x5, x6, x7, x8, x9, none, none] ∧ 1 ≤ n ∧ n ≤ 24 ∧ Bag H' b g) ?_ ?_ ?_⟩
    · exact ⟨n, _, _, rfl, n1, by omega, B5⟩
    · clear n1 n2 hz hM2 e5 B5 x5 hN
      rintro i σ H6 hi ⟨n, x5, x9, rfl, n1, n2, B6⟩
      dsimp only [gName]
      refine seq_cut (fun σ H' => ∃ m : Nat, σ = [some (.ref a), some (.ref b), some (.int (m : Int)), some (.int ((2 ^ (n - 1) : Nat) : Int)), x4, x5, x6, x7, x8, some (.int (0 + (i : Nat))), none, none] ∧ 2 ≤ m ∧ m ≤ 24 ∧ Bag H' b g) (fun N hN => ?_) ?_
      · refine ⟨_, rfl, b, g, 23, rfl, B6, by decide, by decide, fun r H7 r0 r1 k7 B7 => ⟨_, _, rfl, rfl, ?_⟩⟩
        have r1 := r1 (by decide)
        refine hN _ _ ⟨(2 + r).toNat, ?_, by omega, by omega, B7⟩
        rw [show (((2 + r).toNat : Nat) : Int) = 2 + r by omega]
        rfl
      rintro σ H7 ⟨m, rfl, m1, m2, B7⟩
      have hzm : (m : Int) - 1 = ((m - 1 : Nat) : Int) := by omega
      refine seq_cut (fun σ H' => σ = [some (.ref a), some (.ref b), some (.int (m : Int)), some (.int ((2 ^ (m - 1) : Nat) : Int)), x4, x5, x6, x7, x8, some (.int (0 + (i : Nat))), none, none] ∧ H7 = H') (fun N hN => ?_) ?_
      · exact ⟨_, rfl, _, _, rfl, rfl, m - 1, by dsimp only; rw [hzm]; rfl, by omega, hN _ _ ⟨rfl, rfl⟩⟩
      rintro σ H' ⟨rfl, rfl⟩
      have hP1 : 2 ^ 1 ≤ 2 ^ (m - 1) := Nat.pow_le_pow_right (by decide) (by omega)
      have hP2 : 2 ^ (m - 1) ≤ 2 ^ 23 := Nat.pow_le_pow_right (by decide) (by omega)
      refine seq_cut (fun σ H' => ∃ v : Nat, σ = [some (.ref a), some (.ref b), some (.int (m : Int)), some (.int ((2 ^ (m - 1) : Nat) : Int)), x4, some (.int (v : Int)), x6, x7, x8, some (.int (0 + (i : Nat))), none, none] ∧ v < 2 ^ (m - 1) ∧ Bag H' b g) (fun N hN => ?_) ?_
      · generalize 2 ^ (m - 1) = M at hP1 hP2 hN ⊢
        refine ⟨_, rfl, _, rfl, _, _, rfl, rfl, _, rfl, _, _, rfl, rfl, ⟨by decide, by decide⟩, _, rfl, _, _, rfl, rfl, ⟨by decide, by decide⟩, _, _, rfl, rfl, ?_⟩
        refine ⟨_, rfl, _, rfl, b, g, M, rfl, B7, by omega, by omega, fun r H8 r0 r1 k8 B8 => ⟨_, rfl, _, rfl, b, g, M, rfl, B8, by omega, by omega, fun q H9 q0 q1 k9 B9 => ⟨(by show 6 ≤ sizeLine; decide), fun l hl => ?_⟩⟩⟩
        have r1 := r1 (by omega)
        have q1 := q1 (by omega)
        refine ⟨b, g, l, _, rfl, B9.same (same_upd _ hl), upd_same, by simp, by show 6 < 1000; decide, (B9.off hl).2, fun x H10 hx k10 B10 => ?_⟩
        have hx' : ∃ v : Nat, x = .int (v : Int) ∧ v < M := by
          simp only [List.mem_cons, List.not_mem_nil, or_false] at hx
          rcases hx with rfl | rfl | rfl | rfl | rfl | rfl
          · exact ⟨0, rfl, by omega⟩
          · exact ⟨M - 1, by congr 1; omega, by omega⟩
          · exact ⟨M / 2, rfl, by omega⟩
          · exact ⟨M / 2 - 1, by congr 1; omega, by omega⟩
          · exact ⟨r.toNat, by congr 1; omega, by omega⟩
          · exact ⟨q.toNat, by congr 1; omega, by omega⟩
        obtain ⟨v, rfl, hv⟩ := hx'
        exact hN _ _ ⟨v, rfl, hv, B10⟩
      rintro σ H8 ⟨v, rfl, hv, B8⟩
      refine if_cut (fun c H' => c = false ∧ Same H8 H') (fun Q' hQ => ?_) ?_ ?_
      · exact ⟨_, rfl, _, rfl, m, v, rfl, by omega, m2, hv, fun H9 e9 => ⟨true, rfl, hQ _ _ ⟨rfl, e9⟩⟩⟩
      · rintro H' ⟨z, _⟩
        cases z
      · rintro H' ⟨_, e'⟩
        exact ⟨m, _, _, rfl, by omega, m2, B8.same e'⟩
    · rintro σ H6 ⟨n, x5, x9, rfl, n1, n2, B6⟩
      exact hN _ _ ⟨n, x5, x9, rfl, n1, n2, B6⟩
  clear n1 n2 hz hM2 e5 B5 x5
  rintro σ H6 ⟨n, x5, x9, rfl, n1, n2, B6⟩
  refine seq_cut (fun σ H' => ∃ (l : Addr) (xs : List V), σ = [some (.ref a), some (.ref b), some (.int (n : Int)), some (.int ((2 ^ (n - 1) : Nat) : Int)), x4, x5, x6, x7, x8, x9, some (.ref l), none] ∧ Bag H' b g ∧ H' l = some (.lst xs) ∧ l ≠ g ∧ l ≠ b ∧ xs ≠ [] ∧ xs.length < 1000 ∧ ∀ v ∈ xs, BadV n b g H' v) (fun N hN => ?_) ?_
  · have hP0 := Nat.two_pow_pos (n - 1)
    have bd1 : ∀ i : Int, ((2 ^ (n - 1) : Nat) : Int) ≤ i → Bad n i := fun i h z => by have := z.2; omega
    have bd2 : ∀ i : Int, i < 0 → Bad n i := fun i h z => by have := z.1; omega
    generalize hM : ((2 ^ (n - 1) : Nat) : Int) = M at bd1 ⊢
    have hM0 : 0 < M := by rw [← hM]; exact Int.ofNat_lt.mpr hP0
    refine ⟨_, rfl, _, rfl, _, rfl, _, rfl, b, g, 99, rfl, B6, by decide, by decide, fun r H7 r0 r1 k7 B7 => ⟨_, _, rfl, rfl, (by show 1 ≤ sizeLine; decide), fun t ht => ⟨(by show 1 ≤ sizeLine; decide), fun q hq => fun d hd => ⟨_, rfl, _, rfl, (by show 11 ≤ sizeLine; decide), fun l hl => ?_⟩⟩⟩⟩
    have f1 := same_upd (.tup [.int 0]) ht
    have f2 := same_upd (.lst [.int 0]) hq
    have f3 := same_upd (.dK []) hd
    have Ba := B7.same f1
    have Bb := Ba.same f2
    have Bc := Bb.same f3
    have f4 := same_upd (.lst [.int M, .int (-1), .int (M + r), .bl true, .bl false, .non, .str "0", .ref t, .ref q, .ref d, .int (-M)]) hl
    have Bd := Bc.same f4
    have ht' := f4 _ _ (f3 _ _ (f2 _ _ (show upd H7 t (.tup [.int 0]) t = some (.tup [.int 0]) from upd_same)))
    have hq' := f4 _ _ (f3 _ _ (show upd (upd H7 t (.tup [.int 0])) q (.lst [.int 0]) q = some (.lst [.int 0]) from upd_same))
    have hd' := f4 _ _ (show upd (upd (upd H7 t (.tup [.int 0])) q (.lst [.int 0])) d (.dK []) d = some (.dK []) from upd_same)
    obtain ⟨q1, q2⟩ := Ba.off hq
    obtain ⟨d1, d2⟩ := Bb.off hd
    obtain ⟨l1, l2⟩ := Bc.off hl
    refine hN _ _ ⟨l, [.int M, .int (-1), .int (M + r), .bl true, .bl false, .non, .str "0", .ref t, .ref q, .ref d, .int (-M)], by rw [hM]; rfl, Bd, upd_same, l2, l1, by simp, by show 11 < 1000; decide, fun v hv => ?_⟩
    simp only [List.mem_cons, List.not_mem_nil, or_false] at hv
    rcases hv with rfl | rfl | rfl | rfl | rfl | rfl | rfl | rfl | rfl | rfl | rfl
    · exact .inl ⟨_, rfl, bd1 _ (Int.le_refl _)⟩
    · exact .inl ⟨_, rfl, bd2 _ (by decide)⟩
    · exact .inl ⟨_, rfl, bd1 _ (by omega)⟩
    · exact .inr (.inl ⟨_, rfl⟩)
    · exact .inr (.inl ⟨_, rfl⟩)
    · exact .inr (.inr (.inl rfl))
    · exact .inr (.inr (.inr (.inl ⟨_, rfl⟩)))
    · exact .inr (.inr (.inr (.inr (.inl ⟨_, _, rfl, ht'⟩))))
    · exact .inr (.inr (.inr (.inr (.inr (.inl ⟨_, _, rfl, q1, q2, hq'⟩)))))
    · exact .inr (.inr (.inr (.inr (.inr (.inr ⟨_, _, rfl, d1, d2, hd'⟩)))))
    · exact .inl ⟨_, rfl, bd2 _ (by omega)⟩
  rintro σ H7 ⟨l, xs, rfl, B7, hl7, lg, lb, xne, xln, hbad⟩
  refine seq_cut (fun σ H' => ∃ x11 : Option V, σ = [some (.ref a), some (.ref b), some (.int (n : Int)), some (.int ((2 ^ (n - 1) : Nat) : Int)), x4, x5, x6, x7, x8, x9, some (.ref l), x11]) (fun N hN => ?_) ?_
  · refine ⟨5, rfl, by decide, by decide, fun D hD => ?_⟩
    obtain ⟨o1, o2⟩ := B7.off hD
    refine lc_it (J := Itr 0 5) walk_range (fun j H' => ∃ vs : List V, H' D = some (.lst vs) ∧ vs.length = j ∧ (∀ v ∈ vs, v ∈ xs) ∧ Keep b g H7 H' ∧ Bag H' b g) ?_ ?_ ?_ ?_
    · exact ⟨[], upd_same, rfl, fun v h => (nomatch h), .same (same_upd _ hD), B7.same (same_upd _ hD)⟩
    · rintro j H' _ _
      trivial
    · rintro j x Hx H' hj ⟨vs, hDs, hvl, hvx, kk, B8⟩ ⟨rfl, rfl⟩
      refine ⟨rfl, _, rfl, _, rfl, b, g, l, xs, rfl, B8, kk _ _ lb lg hl7, xne, xln, lg, fun v H9 hv k9 B9 => ?_⟩
      have hD9 := k9 _ _ o1 o2 hDs
      refine ⟨_, hD9, ?_, vs ++ [v], upd_same, by rw [List.length_append, hvl, List.length_singleton], fun w hw => ?_, (kk.trans k9).new_at _ hD, B9.off_upd _ o1 o2⟩
      · exact Nat.lt_of_le_of_lt (m := 100) (by omega) (by decide)
      · rcases List.mem_append.mp hw with z | z
        · exact hvx w z
        · rw [List.mem_singleton.mp z]
          exact hv
    · rintro H8 ⟨vs, hDs, hvl, hvx, kk, B8⟩
      refine ⟨D, rfl, ⟨_, SqL.of hDs⟩, for_list (K := K) (a := D) (xs := vs) (fun i σ H' => ∃ x11 : Option V, σ = [some (.ref a), some (.ref b), some (.int (n : Int)), some (.int ((2 ^ (n - 1) : Nat) : Int)), x4, x5, x6, x7, x8, x9, some (.ref l), x11] ∧ Same H8 H') ?_ ?_ ?_ ?_⟩
      · exact ⟨_, rfl, Same.refl _⟩
      · rintro i σ H' _ ⟨x11, rfl, e⟩
        exact SqL.of (e _ _ hDs)
      · rintro i v σ H9 hv ⟨x11, rfl, e9⟩
        have hb := (hbad v (hvx v (List.mem_of_getElem? hv))).keep B7 (kk.trans (.same e9))
        dsimp only [gName]
        refine if_cut (fun c H' => c = false ∧ Same H9 H') (fun Q' hQ => ?_) ?_ ?_
        · refine ⟨_, rfl, _, rfl, n, v, rfl, n1, n2, hb.kd, fun H10 e10 => ⟨rfl, _, rfl, ?_⟩⟩
          rw [decide_eq_true rfl]
          exact hQ _ _ ⟨rfl, e10⟩
        · rintro H' ⟨z, _⟩
          cases z
        · rintro H' ⟨_, e'⟩
          exact ⟨_, rfl, e9.trans e'⟩
      · rintro σ H9 ⟨x11, rfl, _⟩
        exact hN _ _ ⟨x11, rfl⟩
  rintro σ H8 ⟨x11, rfl⟩
  refine seq_cut (fun σ H' => True) (fun N hN => ?_) ?_
  · refine if_cut (fun c H' => c = false) (fun Q' hQ => ?_) ?_ ?_
    · refine ⟨_, rfl, (by show 6 ≤ sizeLine; decide), fun l6 hl6 => ⟨l6, rfl, ⟨_, SqL.of upd_same⟩, fun D hD => ?_⟩⟩
      have g6 : upd H8 l6 (.lst [.int 1, .int (-1), .bl true, .bl false, .non, .str "0"]) l6 = some (.lst [.int 1, .int (-1), .bl true, .bl false, .non, .str "0"]) := upd_same
      generalize upd H8 l6 (.lst [.int 1, .int (-1), .bl true, .bl false, .non, .str "0"]) = H9 at g6 hD ⊢
      refine lc_list (K := K) (a := l6) (xs := [.int 1, .int (-1), .bl true, .bl false, .non, .str "0"]) (fun j H' => Same H9 H' ∧ H' D = some (.lst [])) ?_ ?_ ?_ ?_
      · exact ⟨same_upd _ hD, upd_same⟩
      · rintro j H' _ ⟨e, _⟩
        exact SqL.of (e _ _ g6)
      · rintro j v H' hv ⟨e, hDs⟩
        have hk : Kd K H' v false ∨ ∃ i : Int, v = .int i ∧ Bad 1 i := by
          have hm := List.mem_of_getElem? hv
          simp only [List.mem_cons, List.not_mem_nil, or_false] at hm
          rcases hm with rfl | rfl | rfl | rfl | rfl | rfl
          · exact .inr ⟨_, rfl, fun z => by have := z.2; revert this; decide⟩
          · exact .inr ⟨_, rfl, fun z => by have := z.1; revert this; decide⟩
          · exact .inl (kd_bl _)
          · exact .inl (kd_bl _)
          · exact .inl kd_non
          · exact .inl (kd_str _)
        refine ⟨rfl, _, rfl, 1, v, rfl, by decide, by decide, hk, fun H10 e10 => ⟨rfl, _, rfl, ?_⟩⟩
        rw [decide_eq_true rfl]
        exact iteF ⟨e.trans e10, e10 _ _ hDs⟩
      · rintro H' ⟨e, hDs⟩
        refine ⟨(by show 0 ≤ sizeLine; decide), fun q hq => ?_⟩
        have e2 := same_upd (.lst []) hq
        refine ⟨.list [], .list [], .lst (SqL.of (e2 _ _ hDs)) .nil, .lst (SqL.of upd_same) .nil, shaped_nil, shaped_nil, _, rfl, ?_⟩
        rw [SeqAt.eqv_refl _ (by simp [PyData.canLay0, PyData.canLayAll0])]
        exact hQ _ _ rfl
    · rintro H' z
      cases z
    · rintro H' _
      exact hN _ _ trivial
  rintro σ H9 _
  have hL : plainN (stpOf (rle (bitsM (5 - 1) 2))) = [(1, 2), (2, 1), (1, 2)] := by decide
  refine ⟨rfl, 5, .int 2, rfl, by decide, by decide, .inl ⟨2, rfl, by decide, fun t1 H10 e10 h1 => ?_⟩⟩
  rw [hL] at h1
  refine ⟨(by show 2 ≤ sizeLine; decide), fun q1 hq1 => ⟨(by show 1 ≤ sizeLine; decide), fun q2 hq2 => ?_⟩⟩
  have f1 := same_upd (.tup [.int 1, .int 1]) hq1
  have f2 := same_upd (.tup [.ref q1]) hq2
  refine ⟨q2, [(1, 1)], rfl, ⟨[q1], upd_same, .cons (f2 _ _ upd_same) .nil⟩, fun x hx => by rw [List.mem_singleton.mp hx]; decide, fun H11 e11 => ⟨(by show 2 ≤ sizeLine; decide), fun l1 hl1 => ?_⟩⟩
  have f3 := same_upd (.lst [.ref t1, .int ((numS 0 [(1, 1)] / 2 : Nat) : Int)]) hl1
  have fa := (f1.trans f2).trans (e11.trans f3)
  have shp := shows_shp (L := [(1, 2), (2, 1), (1, 2)]) (by decide) (by decide)
  have sh : Shows (.list [.tuple (dShp [(1, 2), (2, 1), (1, 2)]), .int 0]) := by
    have a1 := shp.able
    have a2 := able_int (i := 0) (by decide)
    refine shows_mk (by simp only [PyData.showable, PyData.showableAll] at a1 a2 ⊢; rw [a1, a2]; rfl) (by simp [PyData.hasDict, PyData.hasDictAll, dShp]) (by simp [PyData.depth, PyData.depthAll, dShp]) (by simp [Own.cost, Own.costs, dShp])
  dsimp only [tNil]
  refine repr_go (d := .list [.tuple (dShp [(1, 2), (2, 1), (1, 2)]), .int 0]) (.lst (SqL.of upd_same) (.cons (h1.same fa).dp (.cons (.int _) .nil))) sh ?_
  refine ⟨(by show 2 ≤ sizeLine; decide), fun r1 hr1 => ⟨(by show 2 ≤ sizeLine; decide), fun r2 hr2 => ⟨(by show 2 ≤ sizeLine; decide), fun r3 hr3 => ⟨(by show 3 ≤ sizeLine; decide), fun r4 hr4 => ⟨(by show 2 ≤ sizeLine; decide), fun r5 hr5 => ?_⟩⟩⟩⟩⟩
  have g1 := same_upd (.tup [.int 1, .int 2]) hr1
  have g2 := same_upd (.tup [.int 2, .int 1]) hr2
  have g3 := same_upd (.tup [.int 1, .int 2]) hr3
  have g4 := same_upd (.tup [.ref r1, .ref r2, .ref r3]) hr4
  have g5 := same_upd (.lst [.ref r4, .int 0]) hr5
  have k1 := g5 _ _ (g4 _ _ (g3 _ _ (g2 _ _ upd_same)))
  have k2 := g5 _ _ (g4 _ _ (g3 _ _ upd_same))
  have k3 := g5 _ _ (g4 _ _ upd_same)
  have k4 := g5 _ _ upd_same
  dsimp only [tNil]
  refine repr_go (d := .list [.tuple (dShp [(1, 2), (2, 1), (1, 2)]), .int 0]) (.lst (SqL.of upd_same) (.cons (.tup (SqT.of k4) (.cons (.tup (SqT.of k1) (.cons (.int _) (.cons (.int _) .nil))) (.cons (.tup (SqT.of k2) (.cons (.int _) (.cons (.int _) .nil))) (.cons (.tup (SqT.of k3) (.cons (.int _) (.cons (.int _) .nil))) .nil)))) (.cons (.int _) .nil))) sh ?_
  refine ⟨rfl, ?_⟩
  rw [decide_eq_true rfl]
  exact k _

theorem exm_mk {K : PySem.W.Frag} {S D : Addr} (h1 : PySem.W.subIn K (.ref D) (.type "BaseException") = some true) (h2 : PySem.W.isClsIn K D = true) (h3 : PySem.W.typeIn K (.ref D) = some (.type "type")) (h4 : PySem.W.subIn K (.ref S) (.ref D) = some true) :
    PySem.W.exmOne K (.ref S) (.ref D) = some true := by
  have g1 : (PySem.W.subIn K (.ref D) (.type "BaseException") == some true) = true := by rw [h1]; rfl
  have g2 : ((PySem.W.clsIn K D).isSome && PySem.W.typeIn K (.ref D) == some (.type "type")) = true := by
    have h2' : (PySem.W.clsIn K D).isSome = true := h2
    rw [h2', h3]
    rfl
  unfold PySem.W.exmOne PySem.W.kitCls
  simp only [g1, g2, if_true]
  exact h4
end
def cd_mk {K : PySem.W.Frag} {h : Heap} {mg : Str → Option Value} (X : K.In h) (G : h.Ns mainGlobals mg)
  {a0 : Addr} {od0 an0 : Option Addr} {sl0 : Array (Option Value)} {oc0 kV0 dc0 pm0 cd0 ct0 : Value}
  {a1 : Addr} {od1 an1 : Option Addr} {sl1 : Array (Option Value)} {oc1 kV1 dc1 pm1 cd1 ct1 : Value}
  {a2 : Addr} {od2 an2 : Option Addr} {sl2 : Array (Option Value)} {oc2 kV2 dc2 pm2 cd2 ct2 : Value}
  {a3 : Addr} {od3 an3 : Option Addr} {sl3 : Array (Option Value)} {oc3 kV3 dc3 pm3 cd3 ct3 : Value}
  {a4 : Addr} {od4 an4 : Option Addr} {sl4 : Array (Option Value)} {oc4 kV4 dc4 pm4 cd4 ct4 : Value}
  {a5 : Addr} {od5 an5 : Option Addr} {sl5 : Array (Option Value)} {oc5 kV5 dc5 pm5 cd5 ct5 : Value}
  {a6 : Addr} {od6 an6 : Option Addr} {sl6 : Array (Option Value)} {oc6 kV6 dc6 pm6 cd6 ct6 : Value}
  {a7 : Addr} {od7 an7 : Option Addr} {sl7 : Array (Option Value)} {oc7 kV7 dc7 pm7 cd7 ct7 : Value}
  {a8 : Addr} {od8 an8 : Option Addr} {sl8 : Array (Option Value)} {oc8 kV8 dc8 pm8 cd8 ct8 : Value}
  {a9 : Addr} {od9 an9 : Option Addr} {sl9 : Array (Option Value)} {oc9 kV9 dc9 pm9 cd9 ct9 : Value}
  {a10 : Addr} {od10 an10 : Option Addr} {sl10 : Array (Option Value)} {oc10 kV10 dc10 pm10 cd10 ct10 : Value}
  {a11 : Addr} {od11 an11 : Option Addr} {sl11 : Array (Option Value)} {oc11 kV11 dc11 pm11 cd11 ct11 : Value}
  {a12 : Addr} {od12 an12 : Option Addr} {sl12 : Array (Option Value)} {oc12 kV12 dc12 pm12 cd12 ct12 : Value}
  {a13 : Addr} {od13 an13 : Option Addr} {sl13 : Array (Option Value)} {oc13 kV13 dc13 pm13 cd13 ct13 : Value}
  {a14 : Addr} {od14 an14 : Option Addr} {sl14 : Array (Option Value)} {oc14 kV14 dc14 pm14 cd14 ct14 : Value}
  {a15 : Addr} {od15 an15 : Option Addr} {sl15 : Array (Option Value)} {oc15 kV15 dc15 pm15 cd15 ct15 : Value}
  {c_TripError : Addr}
  {c_Unfit : Addr}
  (g0 : PySem.W.nsIn K mainGlobals "_wall" = some (some (.ref a0))) (l0 : K.lookup a0 = some ⟨oc0, od0, .func (PySem.W.fnOf "_wall" "_wall" (defArgs s__wall) (defBody s__wall) (defScope s__wall) .none kV0 dc0 pm0 an0 cd0 ct0), sl0⟩) (c0 : PySem.W.codeIn K cd0 "_wall" = true) (k0 : PySem.W.keepIn K (.ref a0) = true)
  (g1 : PySem.W.nsIn K mainGlobals "is_integer" = some (some (.ref a1))) (l1 : K.lookup a1 = some ⟨oc1, od1, .func (PySem.W.fnOf "is_integer" "is_integer" (defArgs s_is_integer) (defBody s_is_integer) (defScope s_is_integer) .none kV1 dc1 pm1 an1 cd1 ct1), sl1⟩) (c1 : PySem.W.codeIn K cd1 "is_integer" = true) (k1 : PySem.W.keepIn K (.ref a1) = true)
  (g2 : PySem.W.nsIn K mainGlobals "plain_by" = some (some (.ref a2))) (l2 : K.lookup a2 = some ⟨oc2, od2, .func (PySem.W.fnOf "plain_by" "plain_by" (defArgs s_plain_by) (defBody s_plain_by) (defScope s_plain_by) .none kV2 dc2 pm2 an2 cd2 ct2), sl2⟩) (c2 : PySem.W.codeIn K cd2 "plain_by" = true) (k2 : PySem.W.keepIn K (.ref a2) = true)
  (g3 : PySem.W.nsIn K mainGlobals "plain_count" = some (some (.ref a3))) (l3 : K.lookup a3 = some ⟨oc3, od3, .func (PySem.W.fnOf "plain_count" "plain_count" (defArgs s_plain_count) (defBody s_plain_count) (defScope s_plain_count) .none kV3 dc3 pm3 an3 cd3 ct3), sl3⟩) (c3 : PySem.W.codeIn K cd3 "plain_count" = true) (k3 : PySem.W.keepIn K (.ref a3) = true)
  (g4 : PySem.W.nsIn K mainGlobals "plain_at" = some (some (.ref a4))) (l4 : K.lookup a4 = some ⟨oc4, od4, .func (PySem.W.fnOf "plain_at" "plain_at" (defArgs s_plain_at) (defBody s_plain_at) (defScope s_plain_at) .none kV4 dc4 pm4 an4 cd4 ct4), sl4⟩) (c4 : PySem.W.codeIn K cd4 "plain_at" = true) (k4 : PySem.W.keepIn K (.ref a4) = true)
  (g5 : PySem.W.nsIn K mainGlobals "plain_number" = some (some (.ref a5))) (l5 : K.lookup a5 = some ⟨oc5, od5, .func (PySem.W.fnOf "plain_number" "plain_number" (defArgs s_plain_number) (defBody s_plain_number) (defScope s_plain_number) .none kV5 dc5 pm5 an5 cd5 ct5), sl5⟩) (c5 : PySem.W.codeIn K cd5 "plain_number" = true) (k5 : PySem.W.keepIn K (.ref a5) = true)
  (g6 : PySem.W.nsIn K mainGlobals "_law_urn" = some (some (.ref a6))) (l6 : K.lookup a6 = some ⟨oc6, od6, .func (PySem.W.fnOf "_law_urn" "_law_urn" (defArgs s__law_urn) (defBody s__law_urn) (defScope s__law_urn) .none kV6 dc6 pm6 an6 cd6 ct6), sl6⟩) (c6 : PySem.W.codeIn K cd6 "_law_urn" = true) (k6 : PySem.W.keepIn K (.ref a6) = true)
  (g7 : PySem.W.nsIn K mainGlobals "_law_take" = some (some (.ref a7))) (l7 : K.lookup a7 = some ⟨oc7, od7, .func (PySem.W.fnOf "_law_take" "_law_take" (defArgs s__law_take) (defBody s__law_take) (defScope s__law_take) .none kV7 dc7 pm7 an7 cd7 ct7), sl7⟩) (c7 : PySem.W.codeIn K cd7 "_law_take" = true) (k7 : PySem.W.keepIn K (.ref a7) = true)
  (g8 : PySem.W.nsIn K mainGlobals "_law_pick" = some (some (.ref a8))) (l8 : K.lookup a8 = some ⟨oc8, od8, .func (PySem.W.fnOf "_law_pick" "_law_pick" (defArgs s__law_pick) (defBody s__law_pick) (defScope s__law_pick) .none kV8 dc8 pm8 an8 cd8 ct8), sl8⟩) (c8 : PySem.W.codeIn K cd8 "_law_pick" = true) (k8 : PySem.W.keepIn K (.ref a8) = true)
  (g9 : PySem.W.nsIn K mainGlobals "_law_inward" = some (some (.ref a9))) (l9 : K.lookup a9 = some ⟨oc9, od9, .func (PySem.W.fnOf "_law_inward" "_law_inward" (defArgs s__law_inward) (defBody s__law_inward) (defScope s__law_inward) .none kV9 dc9 pm9 an9 cd9 ct9), sl9⟩) (c9 : PySem.W.codeIn K cd9 "_law_inward" = true) (k9 : PySem.W.keepIn K (.ref a9) = true)
  (g10 : PySem.W.nsIn K mainGlobals "_law_signed" = some (some (.ref a10))) (l10 : K.lookup a10 = some ⟨oc10, od10, .func (PySem.W.fnOf "_law_signed" "_law_signed" (defArgs s__law_signed) (defBody s__law_signed) (defScope s__law_signed) .none kV10 dc10 pm10 an10 cd10 ct10), sl10⟩) (c10 : PySem.W.codeIn K cd10 "_law_signed" = true) (k10 : PySem.W.keepIn K (.ref a10) = true)
  (g11 : PySem.W.nsIn K mainGlobals "_law_signs" = some (some (.ref a11))) (l11 : K.lookup a11 = some ⟨oc11, od11, .func (PySem.W.fnOf "_law_signs" "_law_signs" (defArgs s__law_signs) (defBody s__law_signs) (defScope s__law_signs) .none kV11 dc11 pm11 an11 cd11 ct11), sl11⟩) (c11 : PySem.W.codeIn K cd11 "_law_signs" = true) (k11 : PySem.W.keepIn K (.ref a11) = true)
  (g12 : PySem.W.nsIn K mainGlobals "_law_word" = some (some (.ref a12))) (l12 : K.lookup a12 = some ⟨oc12, od12, .func (PySem.W.fnOf "_law_word" "_law_word" (defArgs s__law_word) (defBody s__law_word) (defScope s__law_word) .none kV12 dc12 pm12 an12 cd12 ct12), sl12⟩) (c12 : PySem.W.codeIn K cd12 "_law_word" = true) (k12 : PySem.W.keepIn K (.ref a12) = true)
  (g13 : PySem.W.nsIn K mainGlobals "_law_power" = some (some (.ref a13))) (l13 : K.lookup a13 = some ⟨oc13, od13, .func (PySem.W.fnOf "_law_power" "_law_power" (defArgs s__law_power) (defBody s__law_power) (defScope s__law_power) .none kV13 dc13 pm13 an13 cd13 ct13), sl13⟩) (c13 : PySem.W.codeIn K cd13 "_law_power" = true) (k13 : PySem.W.keepIn K (.ref a13) = true)
  (g14 : PySem.W.nsIn K mainGlobals "_law_is_near" = some (some (.ref a14))) (l14 : K.lookup a14 = some ⟨oc14, od14, .func (PySem.W.fnOf "_law_is_near" "_law_is_near" (defArgs s__law_is_near) (defBody s__law_is_near) (defScope s__law_is_near) .none kV14 dc14 pm14 an14 cd14 ct14), sl14⟩) (c14 : PySem.W.codeIn K cd14 "_law_is_near" = true) (k14 : PySem.W.keepIn K (.ref a14) = true)
  (g15 : PySem.W.nsIn K mainGlobals "law" = some (some (.ref a15))) (l15 : K.lookup a15 = some ⟨oc15, od15, .func (PySem.W.fnOf "law" "law" (defArgs s_law) (defBody s_law) (defScope s_law) .none kV15 dc15 pm15 an15 cd15 ct15), sl15⟩) (c15 : PySem.W.codeIn K cd15 "law" = true) (k15 : PySem.W.keepIn K (.ref a15) = true)
  (z_abs : PySem.W.nsIn K mainGlobals "abs" = some none)
  (z_bool : PySem.W.nsIn K mainGlobals "bool" = some none)
  (z_int : PySem.W.nsIn K mainGlobals "int" = some none)
  (z_isinstance : PySem.W.nsIn K mainGlobals "isinstance" = some none)
  (z_len : PySem.W.nsIn K mainGlobals "len" = some none)
  (z_max : PySem.W.nsIn K mainGlobals "max" = some none)
  (z_range : PySem.W.nsIn K mainGlobals "range" = some none)
  (z_repr : PySem.W.nsIn K mainGlobals "repr" = some none)
  (z_tuple : PySem.W.nsIn K mainGlobals "tuple" = some none)
  (gx_TripError : PySem.W.nsIn K mainGlobals "TripError" = some (some (.ref c_TripError))) (kx_TripError : PySem.W.keepIn K (.ref c_TripError) = true)
  (xb_TripError : PySem.W.subIn K (.ref c_TripError) (.type "BaseException") = some true) (xt_TripError : PySem.W.typeIn K (.ref c_TripError) = some (.type "type")) (xi_TripError : PySem.W.isClsIn K c_TripError = true)
  (gx_Unfit : PySem.W.nsIn K mainGlobals "Unfit" = some (some (.ref c_Unfit))) (kx_Unfit : PySem.W.keepIn K (.ref c_Unfit) = true)
  (x_Unfit : PySem.W.excIn K c_Unfit [.type "ValueError", .type "Exception", .type "BaseException", .type "object"] "ValueError.__new__" = true)
  (xb_Unfit : PySem.W.subIn K (.ref c_Unfit) (.type "BaseException") = some true) (xt_Unfit : PySem.W.typeIn K (.ref c_Unfit) = some (.type "type")) (xi_Unfit : PySem.W.isClsIn K c_Unfit = true)
  (s_Unfit_Unfit : PySem.W.subIn K (.ref c_Unfit) (.ref c_Unfit) = some true) : Cd K mg :=
  {
    a__wall := a0, d__wall := _, F__wall := fun_mk (st := s__wall) l0 c0 k0, m__wall := PySem.W.mg_of X G g0,
    b__wall := (fun_mk (st := s__wall) l0 c0 k0).binds (ps := p__wall) fun _ _ _ _ _ _ us hl => match us, hl with | [_], _ => rfl,
    a_is_integer := a1, d_is_integer := _, F_is_integer := fun_mk (st := s_is_integer) l1 c1 k1, m_is_integer := PySem.W.mg_of X G g1,
    b_is_integer := (fun_mk (st := s_is_integer) l1 c1 k1).binds (ps := p_is_integer) fun _ _ _ _ _ _ us hl => match us, hl with | [_], _ => rfl,
    a_plain_by := a2, d_plain_by := _, F_plain_by := fun_mk (st := s_plain_by) l2 c2 k2, m_plain_by := PySem.W.mg_of X G g2,
    b_plain_by := (fun_mk (st := s_plain_by) l2 c2 k2).binds (ps := p_plain_by) fun _ _ _ _ _ _ us hl => match us, hl with | [_], _ => rfl,
    a_plain_count := a3, d_plain_count := _, F_plain_count := fun_mk (st := s_plain_count) l3 c3 k3, m_plain_count := PySem.W.mg_of X G g3,
    b_plain_count := (fun_mk (st := s_plain_count) l3 c3 k3).binds (ps := p_plain_count) fun _ _ _ _ _ _ us hl => match us, hl with | [_], _ => rfl,
    a_plain_at := a4, d_plain_at := _, F_plain_at := fun_mk (st := s_plain_at) l4 c4 k4, m_plain_at := PySem.W.mg_of X G g4,
    b_plain_at := (fun_mk (st := s_plain_at) l4 c4 k4).binds (ps := p_plain_at) fun _ _ _ _ _ _ us hl => match us, hl with | [_, _], _ => rfl,
    a_plain_number := a5, d_plain_number := _, F_plain_number := fun_mk (st := s_plain_number) l5 c5 k5, m_plain_number := PySem.W.mg_of X G g5,
    b_plain_number := (fun_mk (st := s_plain_number) l5 c5 k5).binds (ps := p_plain_number) fun _ _ _ _ _ _ us hl => match us, hl with | [_], _ => rfl,
    a__law_urn := a6, d__law_urn := _, F__law_urn := fun_mk (st := s__law_urn) l6 c6 k6, m__law_urn := PySem.W.mg_of X G g6,
    b__law_urn := (fun_mk (st := s__law_urn) l6 c6 k6).binds (ps := p__law_urn) fun _ _ _ _ _ _ us hl => match us, hl with | [_], _ => rfl,
    a__law_take := a7, d__law_take := _, F__law_take := fun_mk (st := s__law_take) l7 c7 k7, m__law_take := PySem.W.mg_of X G g7,
    b__law_take := (fun_mk (st := s__law_take) l7 c7 k7).binds (ps := p__law_take) fun _ _ _ _ _ _ us hl => match us, hl with | [_, _], _ => rfl,
    a__law_pick := a8, d__law_pick := _, F__law_pick := fun_mk (st := s__law_pick) l8 c8 k8, m__law_pick := PySem.W.mg_of X G g8,
    b__law_pick := (fun_mk (st := s__law_pick) l8 c8 k8).binds (ps := p__law_pick) fun _ _ _ _ _ _ us hl => match us, hl with | [_, _], _ => rfl,
    a__law_inward := a9, d__law_inward := _, F__law_inward := fun_mk (st := s__law_inward) l9 c9 k9, m__law_inward := PySem.W.mg_of X G g9,
    b__law_inward := (fun_mk (st := s__law_inward) l9 c9 k9).binds (ps := p__law_inward) fun _ _ _ _ _ _ us hl => match us, hl with | [_], _ => rfl,
    a__law_signed := a10, d__law_signed := _, F__law_signed := fun_mk (st := s__law_signed) l10 c10 k10, m__law_signed := PySem.W.mg_of X G g10,
    b__law_signed := (fun_mk (st := s__law_signed) l10 c10 k10).binds (ps := p__law_signed) fun _ _ _ _ _ _ us hl => match us, hl with | [_], _ => rfl,
    a__law_signs := a11, d__law_signs := _, F__law_signs := fun_mk (st := s__law_signs) l11 c11 k11, m__law_signs := PySem.W.mg_of X G g11,
    b__law_signs := (fun_mk (st := s__law_signs) l11 c11 k11).binds (ps := p__law_signs) fun _ _ _ _ _ _ us hl => match us, hl with | [_, _], _ => rfl,
    a__law_word := a12, d__law_word := _, F__law_word := fun_mk (st := s__law_word) l12 c12 k12, m__law_word := PySem.W.mg_of X G g12,
    b__law_word := (fun_mk (st := s__law_word) l12 c12 k12).binds (ps := p__law_word) fun _ _ _ _ _ _ us hl => match us, hl with | [_, _], _ => rfl,
    a__law_power := a13, d__law_power := _, F__law_power := fun_mk (st := s__law_power) l13 c13 k13, m__law_power := PySem.W.mg_of X G g13,
    b__law_power := (fun_mk (st := s__law_power) l13 c13 k13).binds (ps := p__law_power) fun _ _ _ _ _ _ us hl => match us, hl with | [_], _ => rfl,
    a__law_is_near := a14, d__law_is_near := _, F__law_is_near := fun_mk (st := s__law_is_near) l14 c14 k14, m__law_is_near := PySem.W.mg_of X G g14,
    b__law_is_near := (fun_mk (st := s__law_is_near) l14 c14 k14).binds (ps := p__law_is_near) fun _ _ _ _ _ _ us hl => match us, hl with | [_, _], _ => rfl,
    a_law := a15, d_law := _, F_law := fun_mk (st := s_law) l15 c15 k15, m_law := PySem.W.mg_of X G g15,
    b_law := (fun_mk (st := s_law) l15 c15 k15).binds (ps := p_law) fun _ _ _ _ _ _ us hl => match us, hl with | [_], _ => rfl,
    bz := fun s u => .of_eq rfl,
    kw_plain_number_shape := kwBinds (st := s_plain_number) (fun_mk (st := s_plain_number) l5 c5 k5) fun _ _ _ _ _ _ ws hl => match ws, hl with | [_], _ => rfl,
    kw_plain_count_n := kwBinds (st := s_plain_count) (fun_mk (st := s_plain_count) l3 c3 k3) fun _ _ _ _ _ _ ws hl => match ws, hl with | [_], _ => rfl,
    kw_plain_at_value_n := kwBinds (st := s_plain_at) (fun_mk (st := s_plain_at) l4 c4 k4) fun _ _ _ _ _ _ ws hl => match ws, hl with | [_, _], _ => rfl,
    z_abs := PySem.W.mg_none_of X G z_abs,
    z_bool := PySem.W.mg_none_of X G z_bool,
    z_int := PySem.W.mg_none_of X G z_int,
    z_isinstance := PySem.W.mg_none_of X G z_isinstance,
    z_len := PySem.W.mg_none_of X G z_len,
    z_max := PySem.W.mg_none_of X G z_max,
    z_range := PySem.W.mg_none_of X G z_range,
    z_repr := PySem.W.mg_none_of X G z_repr,
    z_tuple := PySem.W.mg_none_of X G z_tuple,
    c_TripError := c_TripError, m_TripError := PySem.W.mg_of X G gx_TripError, k_TripError := kx_TripError, xb_TripError := xb_TripError, xt_TripError := xt_TripError,
    c_Unfit := c_Unfit, m_Unfit := PySem.W.mg_of X G gx_Unfit, k_Unfit := kx_Unfit, xb_Unfit := xb_Unfit, xt_Unfit := xt_Unfit, x_Unfit := x_Unfit,
    e_Unfit_Unfit := exm_mk xb_Unfit xi_Unfit xt_Unfit s_Unfit_Unfit }
theorem all_mk {l : PySem.W.OpenLaw} {w : World} {K : PySem.W.Frag} {h : Heap} {mg : Str → Option Value} {fa : Addr} (X : K.In h) (G : h.Ns mainGlobals mg) (hfa : mg "law" = some (.ref fa)) (T : Cd K mg) :
    ∃ fd : FuncData, (∀ (s : Shared) (v : Value), BindsTo s fd ⟨[v], []⟩ [("_law_script", v)]) ∧ ∀ base : Heap, K.In base → base.Ns mainGlobals mg → FnG l.prog w K mg base 4 fa fd ["_law_script"] (spLaw K) := by
  have e := hfa.symm.trans T.m_law
  cases e
  exact ⟨T.d_law, T.bz, fun base _ _ => ok_law T⟩
end My
open PySem PySem.W PyProof.Rows in
set_option maxRecDepth 100000 in
set_option maxHeartbeats 0 in
theorem PySem.Challenge.cw_onescale_k58_whole_rows_of_plain_shapes_holds : PySem.Challenge.rw_onescale_k58_whole_rows_of_plain_shapes.Holds := by
  w_on; o_law; k_head; (case hw => w_witness2)
  k_fill
  refine Own.walk_ofG (l := PySem.Challenge.rw_onescale_k58_whole_rows_of_plain_shapes) (n := 63) (k := 4) (x := "_law_script") (sp := My.spLaw) rfl (by decide) rfl ⟨rfl, by decide, by decide⟩ (fun w h Y => PySem.W.kIn_of Y) ?F
    (fun K H a ns hl _ hS => ⟨a, ns, rfl, hS, hl, fun _ => rfl⟩)
  case F =>
    intro w mg fa h KX G hmg
    refine' My.all_mk KX G hmg (My.cd_mk KX G ?own_g0 ?own_l0 ?own_c0 ?own_k0 ?own_g1 ?own_l1 ?own_c1 ?own_k1 ?own_g2 ?own_l2 ?own_c2 ?own_k2 ?own_g3 ?own_l3 ?own_c3 ?own_k3 ?own_g4 ?own_l4 ?own_c4 ?own_k4 ?own_g5 ?own_l5 ?own_c5 ?own_k5 ?own_g6 ?own_l6 ?own_c6 ?own_k6 ?own_g7 ?own_l7 ?own_c7 ?own_k7 ?own_g8 ?own_l8 ?own_c8 ?own_k8 ?own_g9 ?own_l9 ?own_c9 ?own_k9 ?own_g10 ?own_l10 ?own_c10 ?own_k10 ?own_g11 ?own_l11 ?own_c11 ?own_k11 ?own_g12 ?own_l12 ?own_c12 ?own_k12 ?own_g13 ?own_l13 ?own_c13 ?own_k13 ?own_g14 ?own_l14 ?own_c14 ?own_k14 ?own_g15 ?own_l15 ?own_c15 ?own_k15 ?own_z_abs ?own_z_bool ?own_z_int ?own_z_isinstance ?own_z_len ?own_z_max ?own_z_range ?own_z_repr ?own_z_tuple ?own_gx_TripError ?own_kx_TripError ?own_xb_TripError ?own_xt_TripError ?own_xi_TripError ?own_gx_Unfit ?own_kx_Unfit ?own_x_Unfit ?own_xb_Unfit ?own_xt_Unfit ?own_xi_Unfit ?own_s_Unfit_Unfit)
    (case own_g0 => first | k_is | k_exc | rfl); (case own_l0 => first | k_is | k_exc | rfl); (case own_c0 => first | k_is | k_exc | rfl); (case own_k0 => first | k_is | k_exc | rfl); (case own_g1 => first | k_is | k_exc | rfl); (case own_l1 => first | k_is | k_exc | rfl); (case own_c1 => first | k_is | k_exc | rfl); (case own_k1 => first | k_is | k_exc | rfl)
    (case own_g2 => first | k_is | k_exc | rfl); (case own_l2 => first | k_is | k_exc | rfl); (case own_c2 => first | k_is | k_exc | rfl); (case own_k2 => first | k_is | k_exc | rfl); (case own_g3 => first | k_is | k_exc | rfl); (case own_l3 => first | k_is | k_exc | rfl); (case own_c3 => first | k_is | k_exc | rfl); (case own_k3 => first | k_is | k_exc | rfl)
    (case own_g4 => first | k_is | k_exc | rfl); (case own_l4 => first | k_is | k_exc | rfl); (case own_c4 => first | k_is | k_exc | rfl); (case own_k4 => first | k_is | k_exc | rfl); (case own_g5 => first | k_is | k_exc | rfl); (case own_l5 => first | k_is | k_exc | rfl); (case own_c5 => first | k_is | k_exc | rfl); (case own_k5 => first | k_is | k_exc | rfl)
    (case own_g6 => first | k_is | k_exc | rfl); (case own_l6 => first | k_is | k_exc | rfl); (case own_c6 => first | k_is | k_exc | rfl); (case own_k6 => first | k_is | k_exc | rfl); (case own_g7 => first | k_is | k_exc | rfl); (case own_l7 => first | k_is | k_exc | rfl); (case own_c7 => first | k_is | k_exc | rfl); (case own_k7 => first | k_is | k_exc | rfl)
    (case own_g8 => first | k_is | k_exc | rfl); (case own_l8 => first | k_is | k_exc | rfl); (case own_c8 => first | k_is | k_exc | rfl); (case own_k8 => first | k_is | k_exc | rfl); (case own_g9 => first | k_is | k_exc | rfl); (case own_l9 => first | k_is | k_exc | rfl); (case own_c9 => first | k_is | k_exc | rfl); (case own_k9 => first | k_is | k_exc | rfl)
    (case own_g10 => first | k_is | k_exc | rfl); (case own_l10 => first | k_is | k_exc | rfl); (case own_c10 => first | k_is | k_exc | rfl); (case own_k10 => first | k_is | k_exc | rfl); (case own_g11 => first | k_is | k_exc | rfl); (case own_l11 => first | k_is | k_exc | rfl); (case own_c11 => first | k_is | k_exc | rfl); (case own_k11 => first | k_is | k_exc | rfl)
    (case own_g12 => first | k_is | k_exc | rfl); (case own_l12 => first | k_is | k_exc | rfl); (case own_c12 => first | k_is | k_exc | rfl); (case own_k12 => first | k_is | k_exc | rfl); (case own_g13 => first | k_is | k_exc | rfl); (case own_l13 => first | k_is | k_exc | rfl); (case own_c13 => first | k_is | k_exc | rfl); (case own_k13 => first | k_is | k_exc | rfl)
    (case own_g14 => first | k_is | k_exc | rfl); (case own_l14 => first | k_is | k_exc | rfl); (case own_c14 => first | k_is | k_exc | rfl); (case own_k14 => first | k_is | k_exc | rfl); (case own_g15 => first | k_is | k_exc | rfl); (case own_l15 => first | k_is | k_exc | rfl); (case own_c15 => first | k_is | k_exc | rfl); (case own_k15 => first | k_is | k_exc | rfl)
    (case own_z_abs => first | k_is | k_exc | rfl); (case own_z_bool => first | k_is | k_exc | rfl); (case own_z_int => first | k_is | k_exc | rfl); (case own_z_isinstance => first | k_is | k_exc | rfl); (case own_z_len => first | k_is | k_exc | rfl); (case own_z_max => first | k_is | k_exc | rfl); (case own_z_range => first | k_is | k_exc | rfl); (case own_z_repr => first | k_is | k_exc | rfl)
    (case own_z_tuple => first | k_is | k_exc | rfl); (case own_gx_TripError => first | k_is | k_exc | rfl); (case own_kx_TripError => first | k_is | k_exc | rfl); (case own_xb_TripError => first | k_is | k_exc | rfl); (case own_xt_TripError => first | k_is | k_exc | rfl); (case own_xi_TripError => first | k_is | k_exc | rfl); (case own_gx_Unfit => first | k_is | k_exc | rfl); (case own_kx_Unfit => first | k_is | k_exc | rfl)
    (case own_x_Unfit => first | k_is | k_exc | rfl); (case own_xb_Unfit => first | k_is | k_exc | rfl); (case own_xt_Unfit => first | k_is | k_exc | rfl); (case own_xi_Unfit => first | k_is | k_exc | rfl); (case own_s_Unfit_Unfit => first | k_is | k_exc | rfl)
