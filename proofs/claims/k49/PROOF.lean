import PyProof.Rows.All
import Wide.All
import OpenK.AllK
import Wide.FinOn
import HandS.ForMost
import HandS.IsInst
import HandS.Walk
import HandS.Conv
import HandS.Style
import HandS.Flow
import PyProof.ListStr
import PyProof.ReprRoads
import HandS.Set
import HandS.SetTxt0
import PyProof.Rows.SetFrom
import PyProof.Rows.SortStr
import HandS.SetKeys
import PyProof.ReprLen
import HandS.Iter
import HandS.SortKw
import KE.GoesEnumKw
import HandS.DictComp
import HandS.SortInts
import PyProof.Rows.SortKeyStr
import HandS.SetBool
import KE.DataMinMax
import HandS.GenList
import HandS.ExcOwn
import HandS.Zip
import KE.SortData
import HandS.SetFor
import PyProof.Rows.StrInSeq3
import HandS.Codes
import PySem.Challenge.RW_amidread_k49_whole_comma_free_books_as_g
import PyProof.StrLawsIn
import HandS.StrMore
import HandS.Replace
import PyProof.Rows.StrCut
import HandS.Small
import HandS.TupLe
set_option Elab.async false
set_option linter.all false
set_option maxRecDepth 100000
set_option maxHeartbeats 2000000
namespace Ami
open PySem PySem.Spec PyProof.Rows L2

/-! ### texts -/
/-- a text of one sign -/
def one (c : Nat) : Str := ⟨#[c]⟩
/-- the signs of a text, each as a text -/
def letts (z : Str) : List Str := z.cps.toList.map one
theorem letts_length (z : Str) : (letts z).length = z.length := by
  unfold letts
  rw [List.length_map, Array.length_toList]
  rfl

section
variable {X : Cx}
/-- list(z) -/
theorem cr_listStr (hc : X.calm = true) : CallR X (.type "list") (fun vs H Q => ∃ z : Str, vs = [.str z] ∧ z.length ≤ sizeLine ∧ ∀ p, H p = none → Q (.ref p) (upd H p (.lst ((letts z).map V.str)))) := by
  intro pins s σ H vs us Q I r h
  obtain ⟨z, rfl, hz, q⟩ := h
  obtain ⟨u, rfl, t, rfl⟩ := vals1 r
  refine call_list_str (I.ok.hd hc) z t (fun h' tk acc c' k hS hacc => ?_) hz
  have hl : acc.size = z.cps.size := hacc.1
  have hv : Vals ((letts z).map V.str) acc.toList := by
    refine vals_of_at ?_ fun j x u hx hu => ?_
    · rw [List.length_map, letts_length, Array.length_toList, hl]; rfl
    · have hu' : acc[j]? = some u := by rw [← Array.getElem?_toList]; exact hu
      have hj : j < acc.size := (Array.getElem?_eq_some_iff.mp hu').1
      obtain ⟨c, t', e1, e2⟩ := hacc.2 j u hu'
      subst e2
      have e3 : (letts z)[j]? = some (one c) := by
        unfold letts
        rw [List.getElem?_map, Array.getElem?_toList, e1]; rfl
      rw [List.getElem?_map, e3] at hx
      cases hx
      exact ⟨t', rfl⟩
  refine ⟨.ref s.heap.objs.size, _, I.laid (t' := tk) k (Nat.le_refl _) (show ObjOk X.prog X.w _ h' _ (.lst ((letts z).map V.str)) from ⟨?_, acc.toList, c', hv, by simpa using hS⟩), rfl, q _ (I.hok.fresh (Nat.le_refl _))⟩
  rw [List.length_map, letts_length]; exact hz

/-- z * n, as a text -/
def repS (z : Str) (n : Nat) : Str := ⟨(List.replicate n z.cps.toList).flatten.toArray⟩
theorem flat_rep (l : List Nat) : ∀ (n : Nat) (acc : List Nat), (List.replicate n l.toArray).foldl (· ++ ·) acc.toArray = (acc ++ (List.replicate n l).flatten).toArray := by
  intro n
  induction n with
  | zero => intro acc; simp
  | succ n ih =>
    intro acc
    rw [List.replicate_succ, List.foldl_cons, List.append_toArray, ih, List.replicate_succ, List.flatten_cons, List.append_assoc]
theorem repS_length (z : Str) (n : Nat) : (repS z n).length = n * z.length := by
  show ((List.replicate n z.cps.toList).flatten.toArray).size = n * z.cps.size
  rw [List.size_toArray, List.length_flatten, List.map_replicate, List.sum_replicate_nat, Array.length_toList]
theorem repS_mem {z : Str} {n c : Nat} (h : c ∈ (repS z n).cps.toList) : c ∈ z.cps.toList := by
  have h' : c ∈ (List.replicate n z.cps.toList).flatten := h
  obtain ⟨l, h1, h2⟩ := List.mem_flatten.mp h'
  rw [(List.mem_replicate.mp h1).2] at h2
  exact h2
/-- text * int -/
theorem op_repS : OpR X (binaryOp .Mult) (fun x y H Q => ∃ (z : Str) (n : Nat), x = .str z ∧ y = .int n ∧ n * z.length ≤ sizeLine ∧ n < 2 ^ 62 ∧ Q (.str (repS z n)) H) := by
  intro pins s σ H x y v u Q I rx ry h
  obtain ⟨z, n, rfl, rfl, hz, hn, q⟩ := h
  obtain ⟨t, rfl⟩ := rx
  obtain ⟨t', rfl⟩ := ry
  have hline := sizeLine_eq
  have e0 : (List.replicate n z.cps).foldl (· ++ ·) #[] = (repS z n).cps := by
    have := flat_rep z.cps.toList n []
    simpa [repS] using this
  have fin : ∀ t' k, EP X pins σ Q (.str (repS z n) t') { s with toks := k } := fun t' k => ⟨.str (repS z n), H, I.tok _, ⟨t', rfl⟩, q⟩
  refine PySem.P.mul_str ?_ ?_ ?_ ?_
  · have h1 : ¬ ((n : Int) < -(2 ^ 63 : Int)) := by omega
    have h2 : ¬ ((n : Int) ≥ 2 ^ 63) := by omega
    rw [decide_eq_false h1, decide_eq_false h2]; rfl
  · intro h1 _
    have hn0 : 0 < n := by omega
    have hz' : z.length ≤ n * z.length := Nat.le_mul_of_pos_left _ hn0
    have hq : (2 ^ 63 - 1 : Int) / n ≥ z.length := by
      refine Int.le_ediv_of_mul_le (by omega) ?_
      have e : (z.length : Int) * (n : Int) = ((n * z.length : Nat) : Int) := by
        rw [Nat.mul_comm n z.length]; exact (Int.natCast_mul _ _).symm
      rw [e]
      omega
    omega
  · intro h1 _
    show decide (z.length * n > sizeLine) = false
    rw [Nat.mul_comm]
    exact decide_eq_false (by omega)
  · by_cases c1 : (n : Int) < 1
    · rw [if_pos c1]
      have hn0 : n = 0 := by omega
      subst hn0
      exact ⟨Nat.zero_le _, by have e : Str.empty = repS z 0 := by simp [repS, Str.empty]
                               rw [e]; exact fin _ _⟩
    · rw [if_neg c1]
      by_cases c2 : ((n : Int) == 1 || z.length == 0) = true
      · rw [if_pos c2]
        have e : z = repS z n := by
          rcases (Bool.or_eq_true _ _).mp c2 with k | k
          · have : n = 1 := by have := of_decide_eq_true k; omega
            subst this
            simp [repS]
          · have k' : z.length = 0 := by simpa using k
            have z0 : z.cps = #[] := Array.eq_empty_of_size_eq_zero k'
            obtain ⟨a⟩ := z
            simp only at z0
            subst z0
            simp [repS]
        show EP X pins σ Q (.str z t) s
        exact ⟨.str z, H, I, ⟨t, rfl⟩, by rw [e]; exact q⟩
      · rw [if_neg c2]
        refine ⟨?_, ?_⟩
        · show ((List.replicate ((n : Int)).toNat z.cps).foldl (· ++ ·) #[]).size ≤ sizeLine
          rw [Int.toNat_natCast, e0]
          have := repS_length z n
          unfold Str.length at this
          rw [this]
          exact hz
        · have e1 : (⟨(List.replicate ((n : Int)).toNat z.cps).foldl (· ++ ·) #[]⟩ : Str) = repS z n := by
            rw [Int.toNat_natCast, e0]
          rw [e1]
          exact fin _ _

/-- z[::-1], as a text -/
def revS (z : Str) : Str := ⟨z.cps.toList.reverse.toArray⟩
theorem revS_length (z : Str) : (revS z).length = z.length := by
  show z.cps.toList.reverse.toArray.size = z.cps.size
  rw [List.size_toArray, List.length_reverse, Array.length_toList]
def tRevS (te : TE) : TE := fun σ H Q => te σ H fun x H1 => ∃ z : Str, x = .str z ∧ z.length ≤ sizeLine ∧ Q (.str (revS z)) H1
theorem sliceMade_rev (z : Str) (t uk : Tok) : sliceMade z t none none (some (-1, uk)) = .str (revS z) := by
  unfold sliceMade
  rw [if_neg (by simp)]
  have e : slicePicked z none none (some (-1, uk)) = (List.range z.length).map fun k => z.length - 1 - k := by
    show sliceRange ((z.length : Int) - 1) (-1) (-1) = _
    exact PySem.W.krv_sliceRange z.length
  rw [e]
  have e2 := PySem.W.krv_range z.length
  rw [e2, List.filterMap_reverse]
  have e3 := PySem.W.krv_all z.cps
  unfold Str.length
  rw [e3]
  rfl
theorem pe_revS {e : Expr} {te : TE} {k : Nat} {p1 p2 p3 pos : Pos} (he : PE X e te) : PE X (.Subscript e (.Slice none none (some (.UnaryOp .USub (.Constant (.int 1) k p1) p2)) p3) pos) (tRevS te) := by
  refine ⟨fun pins s σ H Q I h => ?_⟩
  refine Subscript_ (thn (he.run pins s σ H _ I h) fun v s1 ⟨x, H1, I1, r1, z, ex, hz, q⟩ => ?_)
  subst ex
  obtain ⟨t, rfl⟩ := r1
  have hst : PO X (some (.UnaryOp .USub (.Constant (.int 1) k p1) p2)) (tPart (tUn (rU fun i => .int (-i)) (tC (.int 1)))) := po_some (pe_un un_neg pe_int)
  refine wpAny_Slice (thn (po_none.run pins s1 σ H1 (fun o H2 => o = none ∧ H2 = H1) I1 ⟨rfl, rfl⟩) fun vl s2 ⟨l, H2, I2, pl, el, e2⟩ => ?_)
  subst el e2
  refine thn (po_none.run pins s2 σ H2 (fun o H3 => o = none ∧ H3 = H2) I2 ⟨rfl, rfl⟩) fun vu s3 ⟨u, H3, I3, pu, eu, e3⟩ => ?_
  subst eu e3
  refine thn (hst.run pins s3 σ H3 (fun o H4 => o = some (-1) ∧ H4 = H3) I3 ⟨1, rfl, -1, rfl, rfl, rfl⟩) fun vs s4 ⟨o, H4, I4, ps, eo, e4⟩ => ?_
  subst eo e4
  have I5 : Inv X pins σ H4 { s4 with heap := s4.heap.push { cls := .type "slice", data := .fields #[vl, vu, vs] } } := I4.kept (t' := s4.toks) fun b ob q => Heap.get?_push_of_some _ q
  obtain ⟨l0, e1, e2⟩ := IsPart.raw pl
  obtain ⟨u0, e3, e4⟩ := IsPart.raw pu
  obtain ⟨k0, e5, e6⟩ := IsPart.raw ps
  have l00 : l0 = none := by cases l0 with | none => rfl | some p => cases e2
  have u00 : u0 = none := by cases u0 with | none => rfl | some p => cases e4
  obtain ⟨uk, k00⟩ : ∃ uk, k0 = some (-1, uk) := by
    cases k0 with
    | none => cases e6
    | some p =>
      obtain ⟨i, uk⟩ := p
      have : i = -1 := Option.some.inj e6
      subst this
      exact ⟨uk, rfl⟩
  subst l00 u00 k00 e1 e3 e5
  show wpAny (model X.prog X.w) X.A (subscriptTail e (.Slice none none (some (.UnaryOp .USub (.Constant (.int 1) k p1) p2)) p3) (.str z t) (.ref s4.heap.objs.size)) (EP X pins σ Q) X.xe { s4 with heap := s4.heap.push { cls := .type "slice", data := .fields #[partValue none, partValue none, partValue (some (-1, uk))] } }
  refine tail_any (ops := [.ref s4.heap.objs.size, .str z t]) (typeIs_str _ _ _) (PySem.F.slot_str_getitem.lookup) ?_ (by with_unfolding_all rfl)
  refine wpAny_getItem_str_slice (l := none) (u := none) (st := some (-1, uk)) ⟨_, Heap.get?_push_size _ rfl, rfl, rfl⟩ rfl ?_
  rw [sliceMade_rev]
  exact ⟨by rw [revS_length]; exact hz, .str (revS z), _, I5.tok _, ⟨_, rfl⟩, q⟩
end

/-! ### what repr shows -/
mutual
inductive Dq (K : PySem.W.Frag) (H : Hp) : V → PyData → Prop
  | non : Dq K H .non .none
  | bl (b : Bool) : Dq K H (.bl b) (.bool b)
  | int (i : Int) : Dq K H (.int i) (.int i)
  | str (x : Str) : Dq K H (.str x) (.str x)
  | lst {a : Addr} {xs : List V} {ds : List PyData} : SqL K H a xs → DqAll K H xs ds → Dq K H (.ref a) (.list ds)
  | tup {a : Addr} {xs : List V} {ds : List PyData} : SqT K H a xs → DqAll K H xs ds → Dq K H (.ref a) (.tuple ds)
  | dct {a : Addr} {kvs : List (Key × V)} {ds : List (PyData × PyData)} : H a = some (.dK kvs) → DqAll K H (kvs.map fun p => kV p.1) (ds.map (·.1)) → DqAll K H (kvs.map (·.2)) (ds.map (·.2)) → Dq K H (.ref a) (.dict ds)
inductive DqAll (K : PySem.W.Frag) (H : Hp) : List V → List PyData → Prop
  | nil : DqAll K H [] []
  | cons {v : V} {vs : List V} {d : PyData} {ds : List PyData} : Dq K H v d → DqAll K H vs ds → DqAll K H (v :: vs) (d :: ds)
end
mutual
theorem Dq.same {K : PySem.W.Frag} {H H' : Hp} (k : ∀ a, (∀ xs, SqL K H a xs → SqL K H' a xs) ∧ (∀ xs, SqT K H a xs → SqT K H' a xs) ∧ ∀ kvs, H a = some (.dK kvs) → H' a = some (.dK kvs)) : ∀ {v : V} {d : PyData}, Dq K H v d → Dq K H' v d
  | _, _, .non => .non
  | _, _, .bl b => .bl b
  | _, _, .int i => .int i
  | _, _, .str x => .str x
  | _, _, .lst h t => .lst ((k _).1 _ h) (DqAll.same k t)
  | _, _, .tup h t => .tup ((k _).2.1 _ h) (DqAll.same k t)
  | _, _, .dct h t u => .dct ((k _).2.2 _ h) (DqAll.same k t) (DqAll.same k u)
theorem DqAll.same {K : PySem.W.Frag} {H H' : Hp} (k : ∀ a, (∀ xs, SqL K H a xs → SqL K H' a xs) ∧ (∀ xs, SqT K H a xs → SqT K H' a xs) ∧ ∀ kvs, H a = some (.dK kvs) → H' a = some (.dK kvs)) : ∀ {vs : List V} {ds : List PyData}, DqAll K H vs ds → DqAll K H' vs ds
  | _, _, .nil => .nil
  | _, _, .cons h t => .cons (Dq.same k h) (DqAll.same k t)
end
theorem pairs_vals {P : Program} {w : World} : ∀ {es : List DictEntry} {vs : List (Key × Value)} {kvs : List (Key × V)}, Pairs (mixKind P w) es vs → KV kvs vs →
    Vals (kvs.map fun p => kV p.1) (es.map (·.key)) ∧ Vals (kvs.map (·.2)) (es.map (·.val))
  | _, _, _, .nil, .nil => ⟨.nil, .nil⟩
  | _, _, _, .cons h1 h2 h3, .cons q1 q2 => by
    obtain ⟨t1, t2⟩ := pairs_vals h3 q2
    refine ⟨.cons ?_ t1, .cons ?_ t2⟩
    · dsimp only; rw [q1.1]; exact keyIs_rel h1
    · dsimp only; rw [h2]; exact q1.2
section
variable {X : Cx} {pins : List (Addr × Obj)} {σ : L2.St} {H : Hp} {s : Shared}
mutual
theorem Dq.reads (I : Inv X pins σ H s) : ∀ {v : V} {d : PyData} (u : Value), Dq X.K H v d → RelV v u → ∃ as, Reads s.heap u d as
  | _, _, _, .non, r => by cases r; exact ⟨_, Reads.none⟩
  | _, _, _, .bl b, r => by cases r; exact ⟨_, Reads.bool b⟩
  | _, _, _, .int i, r => by obtain ⟨t, rfl⟩ := r; exact ⟨_, Reads.int i t⟩
  | _, _, _, .str x, r => by obtain ⟨t, rfl⟩ := r; exact ⟨_, Reads.str x t⟩
  | _, _, _, .lst hs ha, r => by
    cases r
    obtain ⟨its, rv, ⟨o, n, ho, hc, _, hd⟩, _⟩ := I.list hs
    obtain ⟨as, hr⟩ := DqAll.reads I its ha rv
    exact ⟨_, Reads.list ho hc hd hr⟩
  | _, _, _, .tup hs ha, r => by
    cases r
    obtain ⟨its, rv, ⟨o, ho, hc, n, hd⟩, _⟩ := I.tuple hs
    obtain ⟨as, hr⟩ := DqAll.reads I its ha rv
    exact ⟨_, Reads.tuple ho hc hd hr⟩
  | _, _, _, @Dq.dct _ _ a kvs ds ha h1 h2, r => by
    cases r
    obtain ⟨_, _, vs, kv, o, es, ep, ho, hx, hd, _, pr, _⟩ := dk_of I.hok ha
    obtain ⟨p1, p2⟩ := pairs_vals pr kv
    obtain ⟨as, q1⟩ := DqAll.reads I _ h1 p1
    obtain ⟨bs, q2⟩ := DqAll.reads I _ h2 p2
    exact ⟨_, Reads.dict ho hx.1 hd q1 q2⟩
theorem DqAll.reads (I : Inv X pins σ H s) : ∀ {vs : List V} {ds : List PyData} (us : List Value), DqAll X.K H vs ds → Vals vs us → ∃ as, ReadsAll s.heap us ds as
  | _, _, _, .nil, r => by cases r; exact ⟨_, ReadsAll.nil⟩
  | _, _, _, .cons h1 h2, r => by
    cases r with
    | cons r1 r2 =>
      obtain ⟨as, q1⟩ := Dq.reads I _ h1 r1
      obtain ⟨bs, q2⟩ := DqAll.reads I _ h2 r2
      exact ⟨_, ReadsAll.cons q1 q2⟩
end

/-- what has no object of its own -/
def flatD : PyData → Bool
  | .none | .bool _ | .int _ | .str _ => true
  | _ => false
theorem DqAll.flat (I : Inv X pins σ H s) : ∀ {vs : List V} {ds : List PyData} (us : List Value), DqAll X.K H vs ds → ds.all flatD = true → Vals vs us → ReadsAll s.heap us ds []
  | _, _, _, .nil, _, r => by cases r; exact ReadsAll.nil
  | _, _, _, .cons h1 h2, f, r => by
    cases r with
    | cons r1 r2 =>
      rw [List.all_cons, Bool.and_eq_true] at f
      have q2 := DqAll.flat I _ h2 f.2 r2
      cases h1 with
      | non => cases r1; exact ReadsAll.cons Reads.none q2
      | bl b => cases r1; exact ReadsAll.cons (Reads.bool b) q2
      | int i => obtain ⟨t, rfl⟩ := r1; exact ReadsAll.cons (Reads.int i t) q2
      | str x => obtain ⟨t, rfl⟩ := r1; exact ReadsAll.cons (Reads.str x t) q2
      | _ => cases f.1
/-- no dict within, or itself a dict of what has no object of its own -/
def dictFlat : PyData → Bool
  | .dict kvs => (kvs.map (·.1)).all flatD && (kvs.map (·.2)).all flatD
  | d => !d.hasDict
theorem Dq.readsF (I : Inv X pins σ H s) {v : V} {d : PyData} (u : Value) (h : Dq X.K H v d) (r : RelV v u) (f : dictFlat d = true) : ∃ as, Reads s.heap u d as ∧ (d.hasDict = true → sysModules ∉ as) := by
  cases h with
  | @dct a kvs ds ha h1 h2 =>
    cases r
    obtain ⟨_, hsy, vs, kv, o, es, ep, ho, hx, hd, _, pr, _⟩ := dk_of I.hok ha
    obtain ⟨p1, p2⟩ := pairs_vals pr kv
    have f' : ((ds.map (·.1)).all flatD && (ds.map (·.2)).all flatD) = true := f
    rw [Bool.and_eq_true] at f'
    refine ⟨_, Reads.dict ho hx.1 hd (DqAll.flat I _ h1 f'.1 p1) (DqAll.flat I _ h2 f'.2 p2), fun _ m => ?_⟩
    have m' : sysModules = a := by simpa using m
    rw [m'] at hsy
    simp at hsy
  | non => exact (Dq.reads I u .non r).imp fun as q => ⟨q, fun z => by cases z⟩
  | bl b => exact (Dq.reads I u (.bl b) r).imp fun as q => ⟨q, fun z => by cases z⟩
  | int i => exact (Dq.reads I u (.int i) r).imp fun as q => ⟨q, fun z => by cases z⟩
  | str x => exact (Dq.reads I u (.str x) r).imp fun as q => ⟨q, fun z => by cases z⟩
  | lst hs ha =>
    have f' : (!(PyData.list _).hasDict) = true := f
    exact (Dq.reads I u (.lst hs ha) r).imp fun as q => ⟨q, fun z => by rw [z] at f'; cases f'⟩
  | tup hs ha =>
    have f' : (!(PyData.tuple _).hasDict) = true := f
    exact (Dq.reads I u (.tup hs ha) r).imp fun as q => ⟨q, fun z => by rw [z] at f'; cases f'⟩
end
section
variable {X : Cx}
/-- repr(x) -/
def rRepr (K : PySem.W.Frag) : List V → Hp → VK → Prop := fun xs H Q => ∃ (x : V) (d : PyData), xs = [x] ∧ Dq K H x d ∧ dictFlat d = true ∧ d.showable = true ∧ d.shown.length ≤ sizeLine ∧ d.depth ≤ 50 ∧ Q (.str d.shown) H
theorem cr_repr (hg : X.A.guards = some []) (hu : X.A.units + 64 < cLine) : CallR X (.builtin "repr") (rRepr X.K) := by
  intro pins s σ H xs us Q I r h
  obtain ⟨x, d, rfl, hd, hf, hs, hl, hdep, q⟩ := h
  obtain ⟨u, rfl, rx⟩ := vals1 r
  obtain ⟨as, hr, hsm⟩ := Dq.readsF I u hd rx hf
  have hfin : ∀ (h' : Heap) (t : Tok) (tk : Nat), (∀ b o, s.heap.get? b = some o → h'.get? b = some o) → EP X pins σ Q (.str d.shown t) { s with heap := h', toks := tk } :=
    fun h' t tk k => ⟨.str d.shown, H, I.kept (t' := tk) k, ⟨t, rfl⟩, q⟩
  have hsame : EP X pins σ Q (.str d.shown s.toks) { s with toks := s.toks + 1 } := hfin s.heap s.toks (s.toks + 1) fun _ _ e => e
  cases hd with
  | non => cases rx; exact PySem.P.repr_of_none hsame
  | bl b => cases rx; exact PySem.P.repr_of_bool hsame
  | int i =>
    obtain ⟨t, rfl⟩ := rx
    exact PySem.P.repr_of_int (of_decide_eq_true hs) hsame
  | str y =>
    obtain ⟨t, rfl⟩ := rx
    exact PySem.P.repr_of_str hsame hl
  | lst => cases rx; exact repr_of_reads' hr hs hsm hg (by omega) (fun _ _ e => e) hfin hl
  | tup => cases rx; exact repr_of_reads' hr hs hsm hg (by omega) (fun _ _ e => e) hfin hl
  | dct => cases rx; exact repr_of_reads' hr hs hsm hg (by omega) (fun _ _ e => e) hfin hl
end
end Ami

set_option Elab.async false
set_option linter.all false
set_option maxRecDepth 100000
set_option maxHeartbeats 2000000
namespace Ami
open PySem PySem.Spec PyProof.Rows L2

/-- the key that a member of a set stands for -/
def kOf : Value → Key
  | .int i _ => .inl i
  | .str x _ => .inr x
  | _ => .inl 0
theorem kOf_is {k : Key} {v : Value} (h : keyIs k v = true) : kOf v = k := by
  rcases keyIs_shape h with ⟨i, t, rfl, rfl⟩ | ⟨x, t, rfl, rfl⟩ <;> rfl
def Mem (w : World) (e : Int × Value) : Prop := keyIs (kOf e.2) e.2 = true ∧ e.1 = keyH w (kOf e.2)
theorem scan_of {k : Key} {v : Value} (h : keyIs k v = true) : v.scannable = true := by
  rcases keyIs_shape h with ⟨i, t, rfl, rfl⟩ | ⟨x, t, rfl, rfl⟩ <;> rfl
abbrev keysIn (es : List (Int × Value)) : List Key := es.map fun e => kOf e.2

/-- at a stands a set; its members are the keys of l, each once there -/
def SetW (w : World) (h : Heap) (a : Addr) (l : List Key) : Prop :=
  ∃ o es ep t, h.get? a = some o ∧ o.ExactSet ∧ o.data = .set es ep t ∧ (∀ e ∈ es.toList, Mem w e) ∧ (keysIn es.toList).Nodup ∧ l.Perm (keysIn es.toList) ∧
    es.size < scanBound ∧ t.fits es.size = true ∧ Ris t.place.toList ∧ (w.params.followText "set-order" = true ∨ t.led = true)

section
variable {P : Program} {w : World} {h h' : Heap} {a : Addr} {l l' : List Key}
theorem SetW.at (R : SetW w h a l) (k : ∀ o, h.get? a = some o → h'.get? a = some o) : SetW w h' a l := by
  obtain ⟨o, es, ep, t, ho, r⟩ := R
  exact ⟨o, es, ep, t, k o ho, r⟩
theorem SetW.congr (R : SetW w h a l) (e : l'.Perm l) : SetW w h a l' := by
  obtain ⟨o, es, ep, t, ho, x, d, g, nd, m, r⟩ := R
  exact ⟨o, es, ep, t, ho, x, d, g, nd, e.trans m, r⟩
theorem SetW.nodup (R : SetW w h a l) : l.Nodup := by
  obtain ⟨o, es, ep, t, ho, x, d, g, nd, m, r⟩ := R
  exact m.nodup_iff.mpr nd
theorem elems_of {es : List (Int × Value)} (g : ∀ e ∈ es, Mem w e) : ElemsOf (mixKind P w) es := fun e he => ⟨⟨_, (g e he).1, (g e he).2⟩, scan_of (g e he).1⟩
theorem find_iff {es : List (Int × Value)} (g : ∀ e ∈ es, Mem w e) (k : Key) : k ∈ keysIn es ↔ ∃ e ∈ es, (mixKind P w).is k e.2 = true := by
  constructor
  · intro m
    obtain ⟨e, he, q⟩ := List.mem_map.mp m
    exact ⟨e, he, by rw [← q]; exact (g e he).1⟩
  · rintro ⟨e, he, q⟩
    exact List.mem_map.mpr ⟨e, he, kOf_is q⟩
theorem SetW.setOf (R : SetW w h a l) (S : Key → Bool) (hS : ∀ k, S k = true ↔ k ∈ l) : ∃ n, h.SetOf (mixKind P w) a S n := by
  obtain ⟨o, es, ep, t, ho, x, d, g, nd, m, b, f, r⟩ := R
  exact ⟨_, o, es, ep, t, ho, x, d, elems_of g, fun k => by rw [hS k, m.mem_iff]; exact find_iff g k, b, f, rfl⟩
theorem setW_fresh (w : World) (led : Bool) (hl : w.params.followText "set-order" = true ∨ led = true) :
    SetW w (h.push { cls := .type "set", dict := none, data := .set #[] 0 (.fresh 0 0 led) }) h.objs.size [] :=
  ⟨_, #[], 0, _, Heap.get?_push_size _ rfl, ⟨rfl, rfl, rfl⟩, rfl, (fun e he => by simp at he), List.nodup_nil, List.Perm.nil, (by decide), (by rfl), List.Pairwise.nil, hl⟩
end

section
variable {P : Program} {w : World} {A : Around} {E : Value → Shared → Prop} {s : Shared} {a : Addr} {l : List Key}

/-- the last part of an add: the entries are stored, and laid anew where the table is too full -/
theorem tail_w {g : Bool → Sem Unit} (hg : ∀ (b : Bool) (s₁ : Shared) (Q' : Unit → Shared → Prop), Q' () s₁ → wpAny (model P w) A (g b) Q' E s₁)
    {o : Obj} {es : Array (Int × Value)} {ep : Nat} {t : SetTable} (ho : s.heap.get? a = some o) (hx : o.ExactSet) (hd : o.data = .set es ep t)
    {es1 : Array (Int × Value)} {t1 : SetTable} {l1 : List Key} (g1 : ∀ e ∈ es1.toList, Mem w e) (nd1 : (keysIn es1.toList).Nodup) (m1 : l1.Perm (keysIn es1.toList))
    (hb : es1.size < scanBound) (hf : t1.fits es1.size = true) (hr : Ris t1.place.toList) (hl : w.params.followText "set-order" = true ∨ t1.led = true) {dummy : Bool} {R : Option Bool → Shared → Prop}
    (hR : ∀ h', Heap.SameBut a s.heap h' → SetW w h' a l1 → R (some true) { s with heap := h' }) :
    wpAny (model P w) A (do
        storeSet a es1 t1
        if (!dummy && t1.tooFull) = true then do
            g (relayAll t1 es1 (SetTable.grown es1.size)).2.2
            storeSet a (relayAll t1 es1 (SetTable.grown es1.size)).1 (relayAll t1 es1 (SetTable.grown es1.size)).2.1
            pure (some true)
          else pure (some true)) R E s := by
  have same1 := Heap.SameBut.update s.heap a (Obj.putSet es1 t1)
  have at1 := store_at (es' := es1) (t' := t1) ho hd
  refine wpAny_bind (wpAny_storeSet_of ho hd ?_ (fits_of_scanBound hb))
  by_cases c : (!dummy && t1.tooFull) = true
  · rw [if_pos c]
    obtain ⟨es2, t2, gave, eZ⟩ : ∃ es2 t2 gave, relayAll t1 es1 (SetTable.grown es1.size) = (es2, t2, gave) := ⟨_, _, _, rfl⟩
    have pm := relayAll_perm t1 es1 (SetTable.grown es1.size)
    have hf2 := relayAll_fits t1 es1 (SetTable.grown es1.size)
    have hr2 := relayAll_ris t1 es1 (SetTable.grown es1.size)
    have hl2 := relayAll_led t1 es1 (SetTable.grown es1.size)
    rw [eZ] at pm hf2 hr2 hl2 ⊢
    have hsz : es2.size = es1.size := by rw [← Array.length_toList, pm.length_eq, Array.length_toList]
    have pk : (keysIn es2.toList).Perm (keysIn es1.toList) := pm.map _
    refine wpAny_bind (hg _ _ _ ?_)
    refine wpAny_bind (wpAny_storeSet_of at1 rfl ?_ (fits_of_scanBound (by rw [hsz]; exact hb)))
    refine wpAny_pure (hR _ (same1.trans (Heap.SameBut.update _ a _)) ⟨_, es2, _, t2, store_at (es' := es2) (t' := t2) at1 rfl, hx, rfl, fun e he => g1 e (pm.mem_iff.mp he), pk.nodup_iff.mpr nd1,
      m1.trans pk.symm, by rw [hsz]; exact hb, hf2, hr2, hl.imp id fun z => hl2.trans z⟩)
  · rw [if_neg c]
    exact wpAny_pure (hR _ same1 ⟨_, es1, _, t1, at1, hx, rfl, g1, nd1, m1, hb, hf, hr, hl⟩)

/-- a key is added -/
theorem add_w {k : Key} {v : Value} {Q : Bool → Shared → Prop} (R : SetW w s.heap a l) (hk : keyIs k v = true) (room : l.length + 1 < scanBound)
    (hQ : ∀ (b : Bool) (h' : Heap) (l' : List Key), Heap.SameBut a s.heap h' → SetW w h' a l' → (k ∈ l → l' = l) → (k ∉ l → l' = k :: l) → Q b { s with heap := h' }) :
    wpAny (model P w) A (setAddHashed a v (keyH w k)) Q E s := by
  obtain ⟨o, es, ep, t, ho, hx, hd, g, ndE, m, hb, hf, hr, hl⟩ := R
  have el : ElemsOf (mixKind P w) es.toList := elems_of g
  have hsc := scan_of hk
  have hsize : es.size = l.length := by
    have := m.symm.length_eq
    rw [List.length_map, Array.length_toList] at this
    exact this
  unfold setAddHashed setAddHashedIn
  refine wpAny_holding (wpAny_bind (wpAny_setState_of ho hd hf ?_))
  dsimp only
  rw [byScan_of hsc hb el]
  simp only [↓reduceIte]
  unfold setAddByScan
  refine wpAny_bind ?_
  refine wpAny_bind (wpAny_rule ?_)
  refine wpAny_bind (wpAny_setScan_of (knd := mixKind P w) (k := k) hk ho hd hf el ?_)
  cases hfi : List.findIdx? (fun e => (mixKind P w).is k e.2) es.toList with
  | some j =>
    dsimp only
    obtain ⟨hj, pj, _⟩ := List.findIdx?_eq_some_iff_getElem.mp hfi
    have hkl : k ∈ l := m.mem_iff.mpr ((find_iff (P := P) g k).mpr ⟨_, List.getElem_mem hj, pj⟩)
    refine wpAny_pure (wpAny_pure ?_)
    exact hQ _ s.heap l (Heap.SameBut.refl a s.heap) ⟨o, es, ep, t, ho, hx, hd, g, ndE, m, hb, hf, hr, hl⟩ (fun _ => rfl) fun z => absurd hkl z
  | none =>
    dsimp only
    have hnk : k ∉ keysIn es.toList := fun z => by
      obtain ⟨e, he, q⟩ := (find_iff (P := P) g k).mp z
      have := List.findIdx?_eq_none_iff.mp hfi e he
      rw [q] at this
      cases this
    have hkl : k ∉ l := fun z => hnk (m.mem_iff.mp z)
    have gave : ∀ (b : Bool) {s₁ : Shared} {Q' : Unit → Shared → Prop}, Q' () s₁ → wpAny (model P w) A (match b with | true => rule "set.scan.the-table-gave-way" | false => pure ()) Q' E s₁ :=
      fun b s₁ Q' q => by cases b with | true => exact wpAny_rule q | false => exact wpAny_pure q
    obtain ⟨es1, t1, dummy, gv, eZ⟩ : ∃ es1 t1 dummy gv, layNew t es (keyH w k) v = (es1, t1, dummy, gv) := ⟨_, _, _, _, rfl⟩
    have pm := layNew_perm t es (keyH w k) v
    have hf1 := layNew_fits t es (keyH w k) v
    have hr1 := layNew_ris t es (keyH w k) v hr
    have hl1 := layNew_led t es (keyH w k) v
    have eZ' : layNew t es ((mixKind P w).hash k) v = (es1, t1, dummy, gv) := eZ
    rw [eZ] at pm hf1 hr1 hl1
    rw [eZ]
    dsimp only at pm hf1 hr1 hl1 ⊢
    rw [Array.toList_push] at pm
    have pc : es1.toList.Perm ((keyH w k, v) :: es.toList) := pm.trans (List.perm_append_singleton _ _)
    have pk : (keysIn es1.toList).Perm (k :: keysIn es.toList) := by
      have q := pc.map fun e : Int × Value => kOf e.2
      rw [List.map_cons, kOf_is hk] at q
      exact q
    have g1 : ∀ e ∈ es1.toList, Mem w e := fun e he => by
      rcases List.mem_cons.mp (pc.mem_iff.mp he) with z | z
      · rw [z]
        have e1 := kOf_is hk
        exact ⟨by show keyIs (kOf v) v = true; rw [e1]; exact hk, by show keyH w k = keyH w (kOf v); rw [e1]⟩
      · exact g e z
    have nd1 : (keysIn es1.toList).Nodup := pk.nodup_iff.mpr (List.nodup_cons.mpr ⟨hnk, ndE⟩)
    have m1 : (k :: l).Perm (keysIn es1.toList) := (m.cons k).trans pk.symm
    have hb1 : es1.size < scanBound := by
      have : es1.size = es.size + 1 := by rw [← Array.length_toList, pc.length_eq, List.length_cons, Array.length_toList]
      omega
    have led1 : w.params.followText "set-order" = true ∨ t1.led = true := hl.imp id fun z => hl1.trans z
    refine wpAny_bind (gave _ ?_)
    by_cases hpl : t1.plain = true
    · rw [if_pos hpl]
      refine wpAny_bind ?_
      rw [hashByValue_scannable 8 hsc]
      refine wpAny_pure ?_
      refine tail_w ?_ ho hx hd g1 nd1 m1 hb1 ?_ ?_ ?_ fun h' sb r => wpAny_pure (hQ _ h' (k :: l) sb r (fun z => absurd z hkl) fun _ => rfl)
      · intro b s₁ Q' q; exact gave b q
      · split
        · exact hf1
        · exact SetTable.fits_plain_off hf1
      · split <;> exact hr1
      · split <;> exact led1
    · rw [if_neg hpl]
      refine wpAny_bind (wpAny_pure ?_)
      simp only [↓reduceIte]
      refine tail_w ?_ ho hx hd g1 nd1 m1 hb1 hf1 hr1 led1 fun h' sb r => wpAny_pure (hQ _ h' (k :: l) sb r (fun z => absurd z hkl) fun _ => rfl)
      intro b s₁ Q' q; exact gave b q

/-- what is walked goes into the set -/
theorem loop_w {I : Addr} {fp : List Addr} {n : Nat} {Pv : Nat → Value → Prop} {St : Nat → Heap → Prop} (W : Walks P w A.in1 I fp [I] n Pv St) (haf : a ∉ fp) (hfI : I ∈ fp) {f : Nat → Key} (hf : ∀ i v, i < n → Pv i v → keyIs (f i) v = true) {R : Result → Shared → Prop} :
    ∀ (m i : Nat) (l : List Key) (s : Shared), n - i = m → i ≤ n → SetW w s.heap a l → St i s.heap → l.length + m < scanBound →
    (∀ (h' : Heap) (tk : Nat) (l' : List Key), (∀ b o, b ≠ a → b ≠ I → s.heap.get? b = some o → h'.get? b = some o) →
      SetW w h' a l' → (∀ k, k ∈ l' ↔ k ∈ l ∨ ∃ j, i ≤ j ∧ j < n ∧ k = f j) → R (.ok (.ret .none)) { s with heap := h', toks := tk }) →
    codeAny (model P w) A (.builtin "set.update.loop" ⟨[.ref a, .ref I], []⟩) R s := by
  have haI : a ≠ I := fun e => haf (e ▸ hfI)
  intro m
  induction m with
  | zero =>
    intro i l s hm hi ha hst hb h
    have hin : i = n := by omega
    subst hin
    refine codeAny_builtin PyProof.Rows.F.entry_set_update_loop ?_
    rw [Around.under_plainId PyProof.Rows.F.plain_set_update_loop _]
    show wpAny _ A.in1 (pyNext (.ref I) >>= _) _ _ s
    refine wpAny_bind (W.done s _ _ hst fun h' tk hk => ?_)
    show wpAny _ A.in1 (ret Value.none) _ _ _
    refine wpAny_pure (h h' tk l (fun b o _ hb e => hk b o (by simpa using hb) e) (ha.at fun o e => hk a o (by simpa using haI) e) fun k => ⟨.inl, fun z => z.elim id fun ⟨j, h1, h2, _⟩ => by omega⟩)
  | succ m ih =>
    intro i l s hm hi ha hst hb h
    have hlt : i < n := by omega
    refine codeAny_builtin PyProof.Rows.F.entry_set_update_loop ?_
    rw [Around.under_plainId PyProof.Rows.F.plain_set_update_loop _]
    show wpAny _ A.in1 (pyNext (.ref I) >>= _) _ _ s
    refine wpAny_bind (W.item i s _ _ hlt hst fun v h1 tk hP hst1 hk1 => ?_)
    have hkey : keyIs (f i) v = true := hf i v hlt hP
    show wpAny _ A.in1 (holding [v] (setAdd a v) >>= _) _ _ _
    refine wpAny_bind (wpAny_holding ?_)
    unfold setAdd
    refine wpAny_holding ?_
    refine wpAny_bind ((mixKind P w).pyHash (k := f i) hkey ?_)
    refine add_w (s := { s with heap := h1, toks := tk + 1 }) (ha.at fun o e => hk1 a o (by simpa using haI) e) hkey (by omega) fun b h2 l2 sb R2 q1 q2 => ?_
    have hl2 : l2.length ≤ l.length + 1 := by
      rcases Classical.em (f i ∈ l) with z | z
      · rw [q1 z]; omega
      · rw [q2 z, List.length_cons]; omega
    have hm2 : ∀ k, k ∈ l2 ↔ k ∈ l ∨ k = f i := fun k => by
      rcases Classical.em (f i ∈ l) with z | z
      · rw [q1 z]
        exact ⟨.inl, fun y => y.elim id fun e => e ▸ z⟩
      · rw [q2 z, List.mem_cons]
        exact Or.comm
    have hst2 : St (i + 1) h2 := W.frame _ _ _ hst1 fun c hc o e => (sb.2 c fun z => haf (z ▸ hc)).trans e
    refine wpAny_pure ⟨plainId_quiet PyProof.Rows.F.plain_set_update_loop _, ih (i + 1) l2 { s with heap := h2, toks := tk + 1 } (by omega) hlt R2 hst2 (by omega) fun h3 tk3 l3 k3 R3 m3 => ?_⟩
    refine h h3 tk3 l3 (fun c o hc1 hc2 e => k3 c o hc1 hc2 ((sb.2 c hc1).trans (hk1 c o (by simpa using hc2) e))) R3 fun k => ?_
    rw [m3 k, hm2 k]
    constructor
    · rintro ((q | q) | ⟨j, j1, j2, q⟩)
      · exact .inl q
      · exact .inr ⟨i, Nat.le_refl _, hlt, q⟩
      · exact .inr ⟨j, by omega, j2, q⟩
    · rintro (q | ⟨j, j1, j2, q⟩)
      · exact .inl (.inl q)
      · by_cases e : j = i
        · subst e; exact .inl (.inr q)
        · exact .inr ⟨j, by omega, j2, q⟩


theorem new_led (v : Value) {Q₁ : Value → Shared → Prop}
    (h : Q₁ (.ref s.heap.objs.size) { s with heap := s.heap.push { cls := .type "set", dict := none, data := .set #[] 0 (.fresh 0 0 (!w.params.followText "set-order")) } }) :
    codeAny (model P w) A (.call (.builtin "set.__new__") ⟨[.type "set", v], []⟩) (wants Q₁ E) s := by
  refine codeAny_of_tree ?_
  show wpAny _ A.in1 (do checkBuiltinCall "set.__new__" ⟨[.type "set", v], []⟩; again (.builtin "set.__new__" ⟨[.type "set", v], []⟩)) _ _ s
  refine wpAny_bind (wpAny_of_eq (PySem.F.newCall_set_1 v) (wpAny_pure ⟨plainId_quiet PySem.F.plain_set_new _, codeAny_builtin PySem.F.entry_set_new ?_⟩))
  rw [Around.under_plainId PySem.F.plain_set_new _]
  have hsub := PySem.sub_set_self
  unfold Builtin.«set.__new__» Builtin.Frozenset.newClass
  obtain ⟨hp, g, d, tk, os⟩ := s
  dsimp only
  wp_walk
  refine wpAny_askSetting (wpAny_pure ?_)
  dsimp only
  simp only [newObj]
  refine wpAny_bind (wpAny_alloc (wpAny_pure ?_))
  exact wpAny_pure h

/-- set(v): what is needed of v and its walk -/
structure Fills (P : Program) (w : World) (h : Heap) (v : Value) (T : String) (n : Nat) (f : Nat → Key) : Prop where
  ty : ∀ s' : Shared, (∀ b o, h.get? b = some o → s'.heap.get? b = some o) → s'.TypeIs v T
  s1 : isSubtype (.type T) (.type "set") = pure false
  s2 : isSubtype (.type T) (.type "frozenset") = pure false
  nd : (Value.type T == Value.type "dict") = false
  it : ∀ (A : Around) (E : Value → Shared → Prop) (s' : Shared) (Q : Value → Shared → Prop), (∀ b o, h.get? b = some o → s'.heap.get? b = some o) →
    (∀ (h' : Heap) (I : Addr) (fp : List Addr) (Pv : Nat → Value → Prop) (St : Nat → Heap → Prop), (∀ b o, s'.heap.get? b = some o → h'.get? b = some o) → s'.heap.objs.size ≤ I → I ∈ fp → (∀ b ∈ fp, b = I ∨ ∃ o, h.get? b = some o) →
      (∀ A2 : Around, A2.handled = none → Walks P w A2 I fp [I] n Pv St) → St 0 h' → (∀ i v, i < n → Pv i v → keyIs (f i) v = true) → Q (.ref I) { s' with heap := h' }) → wpAny (model P w) A (pyIter v) Q E s'

end
end Ami

set_option Elab.async false
set_option linter.all false
set_option maxRecDepth 100000
set_option maxHeartbeats 2000000
namespace Ami
open PySem PySem.Spec PyProof.Rows L2
section
variable {P : Program} {w : World} {A : Around} {E : Value → Shared → Prop} {s : Shared} {a : Addr} {l : List Key}
set_option maxHeartbeats 4000000 in
theorem call_set_w {v : Value} {T : String} {n : Nat} {f : Nat → Key} {Q : Value → Shared → Prop} (hh : A.handled = none) (hn : n < scanBound) (F : Fills P w s.heap v T n f)
    (h : ∀ (h' : Heap) (tk : Nat) (l : List Key), (∀ b o, s.heap.get? b = some o → h'.get? b = some o) → SetW w h' s.heap.objs.size l → (∀ k, k ∈ l ↔ ∃ j, j < n ∧ k = f j) → Q (.ref s.heap.objs.size) { s with heap := h', toks := tk }) :
    wpAny (model P w) A (call (.type "set") [v]) Q E s := by
  obtain ⟨c, tl, hmro⟩ := PySem.F.called_set.mro
  have hmade := PySem.F.called_set.made
  have hsub := PySem.F.called_set.sub
  have keep0 : ∀ b o, s.heap.get? b = some o → (s.heap.push { cls := .type "set", dict := none, data := .set #[] 0 (.fresh 0 0 (!w.params.followText "set-order")) }).get? b = some o := fun b o e => Heap.get?_push_of_some _ e
  refine wpAny_call (codeAny_of_tree ?_)
  show wpAny _ _ (callAny (.type "set") _) _ _ _
  refine wpAny_pure ⟨Code.quiet_builtin _ (by decide +kernel), codeAny_builtin PySem.F.entry_type_call ?_⟩
  rw [Around.under_plain (weight_type_call_type "set" [v] []) rfl]
  have h1 := PySem.F.called_set.notType
  have h2 := PySem.F.called_set.canCreate
  have hct := PySem.F.typeCall_set_1 v
  repeat (any_goals (first | assumption | wp_step))
  refine codeAny_mono (new_led v (E := E) (Q₁ := fun obj s₁ => obj = .ref s.heap.objs.size ∧ s₁ = { s with heap := s.heap.push { cls := .type "set", dict := none, data := .set #[] 0 (.fresh 0 0 (!w.params.followText "set-order")) } }) ⟨rfl, rfl⟩) fun r s₁ hr => ?_
  cases r with
  | error e => exact hr
  | ok fl =>
    cases fl with
    | ret obj =>
      obtain ⟨rfl, rfl⟩ := hr
      have hS : (s.heap.push { cls := .type "set", dict := none, data := .set #[] 0 (.fresh 0 0 (!w.params.followText "set-order")) }).get? s.heap.objs.size = some { cls := .type "set", dict := none, data := .set #[] 0 (.fresh 0 0 (!w.params.followText "set-order")) } := Heap.get?_push_size _ rfl
      have hT : Shared.TypeIs { s with heap := s.heap.push { cls := .type "set", dict := none, data := .set #[] 0 (.fresh 0 0 (!w.params.followText "set-order")) } } (.ref s.heap.objs.size) "set" := ⟨_, hS, rfl⟩
      have hli := PySem.F.called_set.init.lookup
      have hbi := PySem.F.called_set.init.bind (.ref s.heap.objs.size)
      repeat (any_goals (first | assumption | wp_step))
      refine codeAny_mono (codeAny_call_builtin (R := wants (fun r s₂ => r = .none ∧ ∃ h' tk l, s₂ = { s with heap := h', toks := tk } ∧ (∀ b o, s.heap.get? b = some o → h'.get? b = some o) ∧ SetW w h' s.heap.objs.size l ∧
          (∀ k, k ∈ l ↔ ∃ j, j < n ∧ k = f j)) E) PySem.F.called_set.init.plain PySem.F.entry_set_init (PySem.check_set_init_1 hT ?_)) fun r₂ s₂ hr₂ => ?_
      · have hTv := F.ty { s with heap := s.heap.push { cls := .type "set", dict := none, data := .set #[] 0 (.fresh 0 0 (!w.params.followText "set-order")) } } keep0
        have q1 := F.s1
        have q2 := F.s2
        have q3 := F.nd
        unfold Builtin.«set.__init__» noKeywords Builtin.Frozenset.updateFrom
        generalize hPI : pyIter = PI
        wp_walk
        subst hPI
        refine F.it _ _ _ _ keep0 fun h1' I fp Pv St k1 hI hfI hfp W st hkey => ?_
        have hI' : s.heap.objs.size + 1 ≤ I := by
          have z := hI
          simp only [Heap.size_push] at z
          exact z
        have haf : s.heap.objs.size ∉ fp := fun m => by
          rcases hfp _ m with z | ⟨o, z⟩
          · exact absurd hI' (by rw [← z]; exact Nat.not_succ_le_self _)
          · exact absurd (Heap.lt_size z) (Nat.lt_irrefl _)
        refine wpAny_bind (wpAny_runValue ?_)
        refine loop_w (A := A.in1.in1) (W _ (by simp [hh])) haf hfI hkey n 0 [] _ (Nat.sub_zero n) (Nat.zero_le _) ((setW_fresh w _ ?_).at fun o e => k1 _ o e) st (by simpa using hn) fun h2 tk l2 k2 R2 m2 => ?_
        · cases w.params.followText "set-order"
          · exact .inr rfl
          · exact .inl rfl
        · refine wpAny_pure ?_
          show wpAny _ _ (ret Value.none) _ _ _
          refine wpAny_pure ⟨rfl, h2, tk, l2, rfl, fun b o e => ?_, R2, fun k => ?_⟩
          · have hb := Heap.lt_size e
            exact k2 b o (Nat.ne_of_lt hb) (Nat.ne_of_lt (Nat.lt_of_lt_of_le hb (Nat.le_of_succ_le hI'))) (k1 b o (keep0 b o e))
          · rw [m2 k]
            constructor
            · rintro (z | ⟨j, _, h2, h3⟩)
              · cases z
              · exact ⟨j, h2, h3⟩
            · rintro ⟨j, h2, h3⟩
              exact .inr ⟨j, Nat.zero_le _, h2, h3⟩
      · cases r₂ with
        | error e => exact hr₂
        | ok fl₂ =>
          cases fl₂ with
          | ret r =>
            obtain ⟨rfl, h', tk, l, rfl, hk', hS', hm'⟩ := hr₂
            repeat (any_goals (first | assumption | wp_step))
            exact h _ _ l hk' hS' hm'
          | _ => exact hr₂.elim
    | _ => exact hr.elim

/-- a text's signs fill a set -/
theorem fills_text {x : Str} {t : Tok} {h : Heap} : Fills P w h (.str x t) "str" x.cps.size (fun i => .inr (one (x.cps.getD i 0))) where
  ty := fun s' _ => typeIs_str s' x t
  s1 := by rw [isSubtype_type]; kernel_rfl
  s2 := by rw [isSubtype_type]; kernel_rfl
  nd := by decide
  it := fun A E s' Q k hq => by
    refine wpAny_pyIter_str fun o St W hst => ?_
    refine hq _ s'.heap.objs.size [s'.heap.objs.size] (SignAt x) St (fun b o' e => Heap.get?_push_of_some _ e) (Nat.le_refl _) (List.mem_singleton.mpr rfl) (fun b hb => .inl (List.mem_singleton.mp hb)) (fun A2 h2 => W A2 h2) hst fun i v hi hv => ?_
    obtain ⟨c, u, e1, e2⟩ := hv
    subst e2
    have e3 : x.cps.getD i 0 = c := by
      rw [Array.getD_eq_getD_getElem?, e1]; rfl
    rw [e3]
    exact keyIs_str _ _
end
end Ami

set_option Elab.async false
set_option linter.all false
set_option maxRecDepth 100000
set_option maxHeartbeats 2000000
namespace Ami
open PySem PySem.Spec PyProof.Rows L2
section
variable {P : Program} {w : World} {A : Around} {E : Value → Shared → Prop} {s : Shared} {a : Addr} {l : List Key}
theorem strs_of_keys : ∀ {us : List Value} {ss : List Str}, us.map kOf = ss.map Sum.inr → (∀ v ∈ us, keyIs (kOf v) v = true) → StrsAre us ss
  | [], [], _, _ => .nil
  | [], _ :: _, e, _ => by cases e
  | _ :: _, [], e, _ => by cases e
  | v :: us, x :: ss, e, g => by
    rw [List.map_cons, List.map_cons] at e
    obtain ⟨e1, e2⟩ := List.cons.inj e
    have h1 := g v List.mem_cons_self
    rw [e1] at h1
    obtain ⟨t, rfl⟩ : ∃ t, v = .str x t := by
      rcases keyIs_shape h1 with ⟨i, t, h, _⟩ | ⟨y, t, h, h2⟩
      · cases h
      · cases h; exact ⟨t, h2⟩
    exact .cons x t (strs_of_keys e2 fun u hu => g u (List.mem_cons_of_mem _ hu))

/-- sorted of a set of texts -/
theorem sorted_w {ss : List Str} {Q : Value → Shared → Prop} (R : SetW w s.heap a (ss.map Sum.inr)) (hh : A.handled = none) (h64 : ss.length < 64)
    (hQ : ∀ s' p (out : Array Value) (c : Nat) (ys : List Str), (∀ b o, s.heap.get? b = some o → s'.heap.get? b = some o) → s'.gens = s.gens → s'.os = s.os → s.heap.objs.size ≤ p →
      s'.heap.get? p = some (seqObj "list" out c) → StrsAre out.toList ys → ys.Perm ss → sortedS ys = true → Q (.ref p) s') :
    wpAny (model P w) A (call (.builtin "sorted") [.ref a]) Q E s := by
  obtain ⟨o, es, ep, t, ho, hx, hd, g, nd, m, hb, hf, hr, hl⟩ := R
  refine Calls.call_function_entry kind_sorted plain_sorted entry_sorted (args_sorted1 _) ?_
  unfold Builtin.«sorted»
  refine wpAny_bind (m := checkCount "sorted" 1 1 _) (wpAny_pure ?_)
  refine wpAny_bind (collect_set (A := A.in1) hh ⟨o, ho, hx.1, hd⟩ hf hb hr hl fun s1 vs k1 hz g1 o1 pm => ?_)
  have pk : (vs.map kOf).Perm (ss.map Sum.inr) := by
    have q := pm.map kOf
    rw [List.map_map] at q
    exact q.trans m.symm
  obtain ⟨ts, et, pt⟩ : ∃ ts : List Str, vs.map kOf = ts.map Sum.inr ∧ ts.Perm ss := by
    refine ⟨(vs.map kOf).map fun k => (match k with | .inr x => x | .inl _ => Str.empty), ?_, ?_⟩
    · rw [List.map_map]
      have : ∀ k ∈ vs.map kOf, k = Sum.inr (match k with | .inr x => x | .inl _ => Str.empty) := fun k hk => by
        obtain ⟨x, _, e⟩ := List.mem_map.mp (pk.mem_iff.mp hk)
        rw [← e]
      conv => lhs; rw [← List.map_id (vs.map kOf)]
      exact List.map_congr_left this
    · have q := pk.map fun k : Key => (match k with | .inr x => x | .inl _ => Str.empty)
      rw [List.map_map (l := ss)] at q
      have e : (ss.map ((fun k : Key => (match k with | .inr x => x | .inl _ => Str.empty)) ∘ Sum.inr)) = ss := by
        conv => rhs; rw [← List.map_id ss]
        exact List.map_congr_left fun _ _ => rfl
      rw [e] at q
      exact q
  have hS : StrsAre vs ts := strs_of_keys et fun v hv => by
    obtain ⟨e, he, q⟩ := List.mem_map.mp (pm.mem_iff.mp hv)
    rw [← q]
    exact (g e he).1
  have hvl : vs.length = ss.length := by
    have := pk.length_eq
    rw [List.length_map, List.length_map] at this
    exact this
  refine wpAny_bind (wpAny_newList ?_ (by rw [hvl, sizeLine_eq]; omega))
  have hoL : (s1.heap.push (seqObj "list" vs.toArray 0)).get? s1.heap.objs.size = some (seqObj "list" vs.toArray 0) := Heap.get?_push_size _ rfl
  refine wpAny_bind (wpAny_holding (wpAny_call_entry slot_list_sort ⟨_, hoL, rfl⟩ entry_list_sort
    (list_sort_treeK strKind_oneLt hoL hS.keysOf (fun v₁ v₂ rest e => keyKind_strs (by rw [← e]; exact hS)) (by rw [hvl]; exact h64) fun st' hp hs => ⟨_, rfl, ?_⟩) (args_list_sort _)))
  obtain ⟨ys, g1', g2, g3⟩ := sorted_out_str hS hp hs
  obtain ⟨c, hc⟩ := sortedHeap_at (vs := vs) (out := (arrOf st').map (·.2)) hoL
  refine wpAny_pure ⟨_, rfl, hQ _ s1.heap.objs.size ((arrOf st').map (·.2)) c ys (fun b u e => ?_) g1 o1 hz hc g1' (g2.trans pt) g3⟩
  have q := k1 b u e
  have hlt := Heap.lt_size q
  show (sortedHeap (s1.heap.push (seqObj "list" vs.toArray 0)) s1.heap.objs.size vs ((arrOf st').map (·.2))).get? b = some u
  rw [sortedHeap_old (Nat.ne_of_lt hlt) (by rw [Heap.size_push]; exact Nat.lt_succ_of_lt hlt)]
  exact Heap.get?_push_of_some _ q
end

/-! ### the rules -/
/-- a set of keys, tracked -/
def SW (w : World) (a : Addr) (l : List Key) : HO := .ext fun h => SetW w h a l
section
variable {X : Cx}
theorem sw_new {H : Hp} {h : Heap} {a : Addr} {l : List Key} {P : Program} {w : World} (R : SetW w h a l) : ObjOk P w H h a (SW w a l) := by
  have ⟨o, _, _, _, ho, _⟩ := R
  exact ⟨R, ⟨o, ho⟩, fun h1 h2 p k => p.at k⟩
theorem sw_get {pins : List (Addr × Obj)} {σ : L2.St} {H : Hp} {s : Shared} {a : Addr} {l : List Key} (I : Inv X pins σ H s) (ha : H a = some (SW X.w a l)) : SetW X.w s.heap a l := (I.hok a _ ha).1
/-- set(z) -/
theorem cr_setStr (hc : X.calm = true) : CallR X (.type "set") (fun vs H Q => ∃ z : Str, vs = [.str z] ∧ z.length < scanBound ∧
    ∀ p l, H p = none → l.Nodup → (∀ x, Sum.inr x ∈ l ↔ x ∈ letts z) → (∀ k ∈ l, ∃ x, k = Sum.inr x) → Q (.ref p) (upd H p (SW X.w p l))) := by
  intro pins s σ H vs us Q I r h
  obtain ⟨z, rfl, hz, q⟩ := h
  obtain ⟨u, rfl, t, rfl⟩ := vals1 r
  refine call_set_w (I.ok.hd hc) (n := z.cps.size) hz fills_text fun h' tk l k R m => ?_
  have hm : ∀ k, k ∈ l ↔ ∃ x ∈ letts z, k = Sum.inr x := fun k => by
    rw [m k]
    constructor
    · rintro ⟨j, hj, e⟩
      refine ⟨one (z.cps.getD j 0), ?_, e⟩
      unfold letts
      refine List.mem_map.mpr ⟨_, ?_, rfl⟩
      rw [Array.getD_eq_getD_getElem?, Array.getElem?_eq_getElem hj]
      exact Array.mem_toList_iff.mpr (Array.getElem_mem hj)
    · rintro ⟨x, hx, e⟩
      obtain ⟨c, hc, e2⟩ := List.mem_map.mp hx
      obtain ⟨j, hj, e3⟩ := List.getElem_of_mem hc
      rw [Array.length_toList] at hj
      refine ⟨j, hj, ?_⟩
      rw [e, ← e2, Array.getD_eq_getD_getElem?, Array.getElem?_eq_getElem hj]
      rw [Array.getElem_toList] at e3
      rw [e3]; rfl
  refine ⟨.ref s.heap.objs.size, _, I.laid (t' := tk) k (Nat.le_refl _) (sw_new R), rfl, q _ l (I.hok.fresh (Nat.le_refl _)) R.nodup (fun x => ?_) fun k hk => ?_⟩
  · rw [hm]
    exact ⟨fun ⟨y, hy, e⟩ => by cases e; exact hy, fun hy => ⟨x, hy, rfl⟩⟩
  · obtain ⟨x, _, e⟩ := (hm k).mp hk
    exact ⟨x, e⟩
/-- sorted of such a set of texts -/
theorem cr_sortedW (hc : X.calm = true) : CallR X (.builtin "sorted") (fun vs H Q => ∃ (a : Addr) (ss : List Str), vs = [.ref a] ∧ H a = some (SW X.w a (ss.map Sum.inr)) ∧ ss.length < 64 ∧
    ∀ ys p, ys.Perm ss → sortedS ys = true → H p = none → Q (.ref p) (upd H p (.lst (ys.map V.str)))) := by
  intro pins s σ H vs us Q I r h
  obtain ⟨a, ss, rfl, ha, h64, q⟩ := h
  rw [Vals.ref1 r]
  refine sorted_w (sw_get I ha) (I.ok.hd hc) h64 fun s' p out c ys k g o hp hg hs hpm hso => ?_
  have hlen : (ys.map V.str).length ≤ sizeLine := by rw [List.length_map, hpm.length_eq, sizeLine_eq]; omega
  have hn : H p = none := I.hok.fresh hp
  have J : Inv X pins σ (upd H p (.lst (ys.map V.str))) { s with heap := s'.heap, gens := s'.gens, drawn := s'.drawn, toks := s'.toks } :=
    I.call (ch := []) (Un.laid k hp hn) (I.hok.laid k hp ⟨hlen, out.toList, c, vals_of_strs hs, hg⟩) (by rw [g]; exact I.bare) (fun _ z => nomatch z)
  have e : s' = { s with heap := s'.heap, gens := s'.gens, drawn := s'.drawn, toks := s'.toks } := by
    cases s'
    cases s
    cases o
    rfl
  rw [e]
  exact ⟨.ref p, _, J, rfl, q ys p hpm hso hn⟩
end
end Ami

set_option Elab.async false
set_option linter.all false
set_option maxRecDepth 100000
set_option maxHeartbeats 2000000
namespace Ami
open PySem PySem.Spec PyProof.Rows L2

/-- a def keeps a promise where nothing is being shown: no guard of repr stands below -/
structure FnG (P : Program) (w : World) (K : PySem.W.Frag) (mg : Str → Option Value) (base : Heap) (CX : CXT) (k : Nat) (f : Addr) (fd : FuncData) (ps : List Str) (sp : Sp) : Prop where
  len : ∀ vs H Q E, sp vs H Q E → vs.length = ps.length
  run : ∀ (A : Around) (outer : List Env) (s : Shared) (H : Hp) (args : Args) (us : List Value) (vs : List V) (Q : VK) (E : XK), A.guards = some [] → Room k A → Env0 P w K mg base A outer s H →
    BindsTo s fd args (ps.zip us) → Vals vs us → sp vs H Q E → codeAny (model P w) A (.call (.ref f) args) (CR CX outer P w H s Q E) s
theorem FnG.of {P : Program} {w : World} {K : PySem.W.Frag} {mg : Str → Option Value} {base : Heap} {CX : CXT} {k : Nat} {f : Addr} {fd : FuncData} {ps : List Str} {sp : Sp} (F : FnOk P w K mg base CX k f fd ps sp) : FnG P w K mg base CX k f fd ps sp :=
  ⟨F.len, fun A outer s H args us vs Q E _ => F.run A outer s H args us vs Q E⟩
theorem guards_deeper {A : Around} (env : Env) (h : A.guards = some []) : (A.deeper env).guards = some [] := by
  show (A.guards) = some []
  exact h

section
variable {P : Program} {w : World} {K : PySem.W.Frag} {mg : Str → Option Value} {base : Heap}
theorem Fun.okG {x qual : Str} {st : Stmt} {f : Addr} {fd : FuncData} {N ps : List Str} {k : Nat} {sp : Sp} (F : Fun K x qual st f fd) (S : FnScope N ps (defScope st)) (len : ∀ vs H Q E, sp vs H Q E → vs.length = ps.length)
    (hbody : ∀ (cdv : Value) (A : Around) (outer : List Env) (s : Shared) (H : Hp) (vs : List V) (Q : VK) (E : XK), A.guards = some [] → Room k (A.deeper (envOfC qual (defScope st) s.heap.objs.size f cdv)) → sp vs H Q E →
      ∃ t, PSs (cxOf CX0 P w K mg base N qual (defScope st) f cdv A outer s H E).nox (defBody st) t ∧ t { nx := fun _ H' => Q .non H', rt := Q } (start N vs) H) : FnG P w K mg base CX0 (k + 1) f fd ps sp := by
  obtain ⟨oc, od, kV, doc, pm, an, cdv, ct, osl, rfl, lk, hcd⟩ := F.ex
  refine ⟨len, fun A outer s H args us vs Q E hg hr e0 hb r hsp => ?_⟩
  have hl := len _ _ _ _ hsp
  have KX : K.In s.heap := e0.mod.kin.keeps fun b o e => (e0.bs b o e).1
  have lim : s.heap.NoLimit := e0.mod.nolimit.keeps fun b o e => (e0.bs b o e).1
  have par : ∀ y ∈ ps.zip us, (defScope st).names.lookup y.1 = some .local ∨ ((defScope st).names.lookup y.1 = some .cell ∧ ((cellsFrom (s.heap.objs.size + 1) (defScope st).names []).lookup y.1).isSome = true) := fun ⟨n, v⟩ hy => by
    rcases S.par n (List.of_mem_zip hy).1 with q | q
    · exact .inl q
    · exact .inr ⟨q, PySem.W.cellsFrom_some _ _ _ (.inl q)⟩
  refine codeAny_call_function hr.depth (KX _ _ lk) rfl S.co S.gen rfl (PySem.W.codeRec_of KX hcd) (hb _ _ _ _ ?_)
  refine wpAny_newFunctionEnv_cells S.kind par fun env he s1 x => ?_
  subst he
  refine ⟨lim.keeps x.toInCall.keep, codeAny_func ?_⟩
  obtain ⟨t, ht, hq⟩ := hbody cdv A outer s H vs Q E hg (hr.deeper _) hsp
  have I : Inv (cxOf CX0 P w K mg base N qual (defScope st) f cdv A outer s H E) [] (start N vs) H s1 := inv_start S hr.hd e0 hl r x
  refine wpAny_mono (ht.nox.run [] s1 (start N vs) H _ I hq) (fun fl s' hs => ?_) fun e s' hs => hs
  have fin : ∀ {σ' : L2.St} {H' : Hp} {v : V} {u : Value}, Inv (cxOf CX0 P w K mg base N qual (defScope st) f cdv A outer s H E) [] σ' H' s' → RelV v u → Q v H' → CE outer P w H s Q u s' :=
    fun {σ' H' v u} J rv q => ⟨v, H', J.os, J.bare, J.base, J.hok, rv, q⟩
  cases fl with
  | ret u => obtain ⟨v, σ', H', J, rv, q⟩ := hs; exact fin J rv q
  | next => obtain ⟨σ', H', J, q⟩ := hs; exact fin (v := V.non) (u := Value.none) J rfl q
  | brk => obtain ⟨_, _, _, q⟩ := hs; exact False.elim q
  | cont => obtain ⟨_, _, _, q⟩ := hs; exact False.elim q
end

section
variable {X : Cx} {CX : CXT} {k : Nat} {f C : Addr} {fd : FuncData} {ps : List Str} {sp : Sp} {dvs : List V} {ds : List Value} {E : XK} {x m : Str} {p pos apos : Pos} {e o : Expr} {es : List Expr} {ta : TE} {t : TA}
theorem run_fnG {pins : List (Addr × Obj)} {σ : L2.St} {H : Hp} {s : Shared} {Q : VK} {us : List Value} {vs : List V} (F : FnG X.prog X.w X.K X.mg X.base CX k f fd ps sp) (hg : X.A.guards = some []) (hr : Room k X.A) (hb : Binds X.K fd ps ds) (hd : Vals dvs ds) (hx : Passes CX X E)
    (I : Inv X pins σ H s) (r : Vals vs us) (h : sp (vs ++ dvs) H Q E) : wpAny (model X.prog X.w) X.A (call (.ref f) us) (EP X pins σ Q) X.xe s := by
  have r2 : Vals (vs ++ dvs) (us ++ ds) := r.append hd
  have hl : (us ++ ds).length = ps.length := by rw [← r2.length]; exact F.len _ _ _ _ h
  refine wpAny_call (codeAny_mono (F.run X.A X.stack s H ⟨us, []⟩ (us ++ ds) (vs ++ dvs) Q E hg hr I.env0 (hb s us I.kIn hl) r2 h) fun r s' hq => ?_)
  cases r with
  | error e => exact hx pins σ H s e s' I hq
  | ok fl =>
    cases fl with
    | ret u => exact I.after hq
    | next => exact False.elim hq
    | brk => exact False.elim hq
    | cont => exact False.elim hq
theorem pe_callG (F : FnG X.prog X.w X.K X.mg X.base CX k f fd ps sp) (hg : X.A.guards = some []) (hr : Room k X.A) (hgl : Gl X x) (hm : X.mg x = some (.ref f)) (hk : PySem.W.keepIn X.K (.ref f) = true) (hb : Binds X.K fd ps ds) (hd : Vals dvs ds) (hx : Passes CX X E)
    (ha : PA X (e :: es) t) (hdb : (x == ("__debug__" : Str)) = false := by decide) (he : starEach (e :: es) X.env = (false, eval e X.env) :: starEach es X.env := by rfl) (hpl : (backTo pos (starEach es X.env)).any (·.1) = false := by rfl) :
    PE X (.Call (.Name x p) (e :: es) [] pos) (tCall sp dvs E t) := by
  refine ⟨fun pins s σ H Q I h => ?_⟩
  refine wpAny_Call_Name_kw (ld_glob I hgl hm ?_ hdb)
  refine PySem.W.callWith_K (h₀ := X.base) I.ok.mod.kin hk (thn (ha.run pos pins s σ H _ I h) fun us s1 ⟨vs, H1, I1, r, q⟩ => ⟨I1.kIn, ?_⟩) he hpl
  exact run_fnG F hg hr hb hd hx I1 r q
end

/-- the law's call, at the heap behind the top -/
theorem law_callG {P : Program} {w : World} {K : PySem.W.Frag} {mg mb : Str → Option Value} {k : Nat} {fa a : Addr} {fd : FuncData} {x : Str} {sp : Sp} {s₁ : Shared} {vs : List Value} {ns : List Int}
    (KX : K.In s₁.heap) (hns : s₁.heap.Ns mainGlobals mg) (hb : s₁.heap.Ns builtinsNs mb) (hbb : ∀ x : Str, x ≠ "__name__" → mb x = bootBuiltins x) (hlim : s₁.heap.NoLimit) (hg : s₁.gens = #[])
    (ha : s₁.heap.get? a = some { cls := .type "list", data := .seq vs.toArray }) (hi : IntsAre vs ns) (hl : ns.length ≤ sizeLine) (hr : Room k callerA)
    (F : ∀ base : Heap, K.In base → base.Ns mainGlobals mg → FnG P w K mg base CX0 k fa fd [x] sp) (hbind : ∀ (s : Shared) (u : Value), BindsTo s fd ⟨[u], []⟩ [(x, u)])
    (hsp : ∀ H : Hp, Only H → SqL K H a (ns.map V.int) → sp [.ref a] H (fun v _ => v = .bl true) fun _ _ _ => False) :
    codeAny (model P w) callerA (.call (.ref fa) ⟨[.ref a], []⟩) (fun r s' => r = .ok (.ret (.bool true)) ∧ OldK s₁.heap s'.heap ∧ s'.os = s₁.os ∧ AllBare s'.gens) s₁ := by
  have hfake : ∀ (H0 : Hp), (∀ b, H0 b ≠ none → b = a) → Only H0 → SqL K H0 a (ns.map V.int) → HOk P w H0 s₁.heap → (H0 a ≠ none → K.lookup a = none) →
      codeAny (model P w) callerA (.call (.ref fa) ⟨[.ref a], []⟩) (fun r s' => r = .ok (.ret (.bool true)) ∧ OldK s₁.heap s'.heap ∧ s'.os = s₁.os ∧ AllBare s'.gens) s₁ := by
    intro H0 hA hO hS hok hK
    have isList : ∀ {b : Addr}, H0 b ≠ none → s₁.heap.get? b = some { cls := .type "list", data := .seq vs.toArray } := fun {b} h => by rw [hA b h]; exact ha
    have untr : ∀ {b : Addr} {o : Obj} {es : Array DictEntry} {ep : Nat}, s₁.heap.get? b = some o → o.data = .dict es ep → H0 b = none := fun {b o es ep} e d => by
      refine Classical.byContradiction fun c => ?_
      have e2 := isList c
      rw [e] at e2
      rw [Option.some.inj e2] at d
      exact nomatch d
    have hbase : ∀ {b : Addr} {o : Obj}, s₁.heap.get? b = some o → H0 b = none → (hidT s₁.heap H0).get? b = some o := fun e n => hidT_get e n
    have nsK : ∀ {b : Addr} {m : Str → Option Value}, s₁.heap.Ns b m → (hidT s₁.heap H0).Ns b m := fun {b m} ⟨o, es, ep, e, d, r⟩ => ⟨o, es, ep, hbase e (untr e d), d, r⟩
    have inK : K.In (hidT s₁.heap H0) := fun b o e => hbase (KX b o e) (Classical.byContradiction fun c => by
      have z := hA b c
      subst z
      rw [hK c] at e
      cases e)
    obtain ⟨mc, n1, n2⟩ := hlim
    have hM : Mod K mg (hidT s₁.heap H0) := ⟨inK, nsK hns, ⟨mb, nsK hb, hbb⟩, mc, nsK n1, n2⟩
    have e0 : Env0 P w K mg (hidT s₁.heap H0) callerA [] s₁ H0 := ⟨rfl, hM, fun b o e => of_hidT e, Nat.le_of_eq (hidT_size _ _), trivial, fun b hb => absurd (show b ∈ ([] : List Addr) from hb) (by simp), hok, .of_eq hg⟩
    refine codeAny_mono ((F _ inK (nsK hns)).run callerA [] s₁ H0 ⟨[.ref a], []⟩ [.ref a] [.ref a] _ _ rfl hr e0 (hbind s₁ (.ref a)) (.cons rfl .nil) (hsp H0 hO hS)) fun r s' h => ?_
    cases r with
    | error e => exact False.elim h
    | ok fl =>
      cases fl with
      | next => exact False.elim h
      | brk => exact False.elim h
      | cont => exact False.elim h
      | ret u =>
        obtain ⟨v, H', os, bare, un, hok', rv, q⟩ := h
        have q' : v = .bl true := q
        subst q'
        have hu : u = Value.bool true := rv
        subst hu
        refine ⟨rfl, OldK.of_keep fun b o e => ?_, os, bare⟩
        rcases hO b with z | ⟨ob, xs, z⟩
        · exact un.keep b o e z (fun m => absurd (show b ∈ ([] : List Addr) from m) (by simp)) (by simp)
        · have p1 := (hok b _ z).1
          have p2 := (hok' b _ (un.frzs b ob _ z)).1
          rw [e] at p1
          rw [Option.some.inj p1]
          exact p2
  cases hk : K.lookup a with
  | some o =>
    have e := KX a o hk
    rw [ha] at e
    cases e
    exact hfake (fun _ => none) (fun b z => absurd rfl z) (fun _ => .inl rfl) (.inr ⟨_, vs.toArray, _, hk, rfl, rfl, rfl, by rw [List.size_toArray, hi.length]; exact hl, by simpa using vals_ints hi⟩) (fun b u z => nomatch (show (none : Option HO) = some u from z)) fun z => absurd rfl z
  | none =>
    refine hfake (fun b => if b = a then some (.frz { cls := .type "list", data := .seq vs.toArray } (.lst (ns.map V.int))) else none) (fun b z => ?_) (fun b => ?_) (.inl (.inr ⟨{ cls := .type "list", data := .seq vs.toArray }, if_pos rfl⟩)) (fun b u z => ?_) fun _ => hk
    · exact Classical.byContradiction fun c => z (if_neg c)
    · by_cases c : b = a
      · exact .inr ⟨_, _, if_pos c⟩
      · exact .inl (if_neg c)
    · by_cases c : b = a
      · have z' := (if_pos c).symm.trans z
        cases z'
        subst c
        exact ⟨ha, by rw [List.length_map]; exact hl, vs, _, vals_ints hi, ha⟩
      · exact nomatch (if_neg c).symm.trans z

/-- the end: what k_head leaves, from the law's promise -/
theorem walk_ofG {l : PySem.W.OpenLaw} {n k : Nat} {q : Program} {loose : List Str} {XP : (Str → Option Value) → Heap → Prop} {YP : World → Heap → Prop} {d : DefRec} {K : Params → PySem.W.Frag} {sp : World → Sp} {x : Str}
    (hn : l.most = some n) (hn2 : n ≤ sizeLine) (hdf : d.params.defaults = []) (hr : Room k callerA) (hY : ∀ (w : World) (h : Heap), YP w h → (K w.params).In h)
    (F : ∀ (w : World) (mg : Str → Option Value) (fa : Addr) (h : Heap), (K w.params).In h → h.Ns mainGlobals mg → mg d.name = some (.ref fa) →
      ∃ fd : FuncData, (∀ (s : Shared) (u : Value), BindsTo s fd ⟨[u], []⟩ [(x, u)]) ∧
        ∀ base : Heap, (K w.params).In base → base.Ns mainGlobals mg → FnG l.prog w (K w.params) mg base CX0 k fa fd [x] (sp w))
    (hsp : ∀ (w : World) (H : Hp) (a : Addr) (ns : List Int), ns.length ≤ n → Only H → SqL (K w.params) H a (ns.map V.int) → sp w [.ref a] H (fun v _ => v = .bl true) fun _ _ _ => False) :
    PySem.W.WalkO q loose XP YP l.row.toRowW d [] (fun f vs => PySem.call f vs) := by
  refine Att.attach_call hn hdf fun w s₀ s₁ mg mb fa o pm cd doc a vs ns G Y ho hd hcd hmg hobj hints hlen hg => ?_
  obtain ⟨fd, hb, hF⟩ := F w mg fa _ (hY w _ Y) G.T.g hmg
  exact law_callG (hY w _ Y) G.T.g G.T.b G.T.builtins G.T.nolimit hg hobj hints (Nat.le_trans hlen hn2) hr hF hb fun H hO hS => hsp w H a ns hlen hO hS
end Ami

set_option Elab.async false
set_option linter.all false
set_option maxRecDepth 100000
set_option maxHeartbeats 2000000
namespace Ami
open PySem PySem.Spec PyProof.Rows L2

/-! ### calls by keywords alone -/
section
variable {X : Cx} {CX : CXT} {k : Nat} {f C : Addr} {fd : FuncData} {ps ks : List Str} {sp : Sp} {E : XK} {x : Str} {p pos : Pos} {kws : List Keyword} {tk : TA} {g : List Value → List Value → List Value} {gV : List V → List V → List V}
theorem pe_callK0 (F : FnOk X.prog X.w X.K X.mg X.base CX k f fd ps sp) (hr : Room k X.A) (hg : Gl X x) (hm : X.mg x = some (.ref f)) (hk : PySem.W.keepIn X.K (.ref f) = true) (hb : KBinds X.K fd ps ks g gV) (hx : Passes CX X E) (hkw : PK X kws tk)
    (hall : (backToKw pos (keywordEach kws X.env)).all (·.1.isSome) = true := by rfl) (hks : (backToKw pos (keywordEach kws X.env)).filterMap (·.1) = ks := by rfl) (hdb : (x == ("__debug__" : Str)) = false := by decide)
    (hpl : ((backTo pos (starEach [] X.env)).any (·.1) || (backToKw pos (keywordEach kws X.env)).any (·.1.isNone)) = false := by rfl) :
    PE X (.Call (.Name x p) [] kws pos) (tCallK sp gV E tNil tk) := by
  refine ⟨fun pins s σ H Q I h => ?_⟩
  refine wpAny_Call_Name_kw (ld_glob I hg hm ?_ hdb)
  refine PySem.W.callWith_KW0 (h₀ := X.base) I.ok.mod.kin hk hall ?_ hpl
  refine thn (hkw.run pos pins s σ H _ I h) fun ws s2 ⟨zs, H2, I2, rz, q2⟩ => ⟨I2.kIn, ?_⟩
  rw [hks]
  exact run_fnk F hr hb hx I2 .nil rz q2
end

/-! ### a def of the text, with all that a call of it wants -/
structure DefAt (K : PySem.W.Frag) (mg : Str → Option Value) (x : Str) (st : Stmt) (ps : List Str) (f : Addr) (fd : FuncData) : Prop where
  F : Fun K x x st f fd
  b : Binds K fd ps []
  g : mg x = some (.ref f)
section
variable {X : Cx} {k : Nat} {f : Addr} {fd : FuncData} {ps : List Str} {sp : Sp} {x : Str} {st : Stmt} {p pos : Pos} {e : Expr} {es : List Expr} {t : TA}
/-- f(e, ..), of a def that lets nothing out -/
theorem pc (D : DefAt X.K X.mg x st ps f fd) (G : FnOk X.prog X.w X.K X.mg X.base CX0 k f fd ps sp) (hr : Room k X.A) (ha : PA X (e :: es) t) (hg : Gl X x := by rfl) (hdb : (x == ("__debug__" : Str)) = false := by decide)
    (he : starEach (e :: es) X.env = (false, eval e X.env) :: starEach es X.env := by rfl) (hpl : (backTo pos (starEach es X.env)).any (·.1) = false := by rfl) : PE X (.Call (.Name x p) (e :: es) [] pos) (tCall sp [] E0 t) :=
  pe_call G hr hg D.g D.F.kp D.b .nil pass0 ha hdb he hpl
theorem pcG (D : DefAt X.K X.mg x st ps f fd) (G : FnG X.prog X.w X.K X.mg X.base CX0 k f fd ps sp) (hgu : X.A.guards = some []) (hr : Room k X.A) (ha : PA X (e :: es) t) (hg : Gl X x := by rfl) (hdb : (x == ("__debug__" : Str)) = false := by decide)
    (he : starEach (e :: es) X.env = (false, eval e X.env) :: starEach es X.env := by rfl) (hpl : (backTo pos (starEach es X.env)).any (·.1) = false := by rfl) : PE X (.Call (.Name x p) (e :: es) [] pos) (tCall sp [] E0 t) :=
  pe_callG G hgu hr hg D.g D.F.kp D.b .nil pass0 ha hdb he hpl
end

/-! ### the deck -/
/-- all but d and c stands as it stood -/
def But (d c : Addr) (H H' : Hp) : Prop := ∀ b o, b ≠ d → b ≠ c → H b = some o → H' b = some o
theorem But.refl (d c : Addr) (H : Hp) : But d c H H := fun _ _ _ _ e => e
theorem But.trans {d c : Addr} {H H1 H2 : Hp} (a : But d c H H1) (b : But d c H1 H2) : But d c H H2 := fun x o h1 h2 e => b x o h1 h2 (a x o h1 h2 e)
theorem But.same {d c : Addr} {H H' : Hp} (s : Same H H') : But d c H H' := fun b o _ _ e => s b o e
theorem Same.upd {H : Hp} {p : Addr} {o : HO} (hp : H p = none) : Same H (L2.upd H p o) := fun b u e => by
  rw [upd_ne (ne_of_none e hp)]; exact e
theorem But.new {d c : Addr} {H H' : Hp} (s : But d c H H') {p : Addr} {o : HO} (hp : H' p = none) : But d c H (L2.upd H' p o) := fun b u h1 h2 e => by
  have e' := s b u h1 h2 e
  rw [upd_ne (ne_of_none e' hp)]
  exact e'

/-- what stays whatever the deck does -/
def Stay (d c : Addr) (φ : Hp → Prop) (H : Hp) : Prop := ∀ H', But d c H H' → φ H'
theorem Stay.now {d c : Addr} {φ : Hp → Prop} {H : Hp} (h : Stay d c φ H) : φ H := h H (But.refl d c H)
theorem Stay.go {d c : Addr} {φ : Hp → Prop} {H H' : Hp} (h : Stay d c φ H) (k : But d c H H') : Stay d c φ H' := fun _ k' => h _ (k.trans k')
theorem Stay.all {d c : Addr} {φ : Hp → Prop} {H : Hp} (h : ∀ H', φ H') : Stay d c φ H := fun H' _ => h H'
theorem Stay.mono {d c : Addr} {φ ψ : Hp → Prop} {H : Hp} (h : Stay d c φ H) (i : ∀ H', φ H' → ψ H') : Stay d c ψ H := fun H' k => i _ (h H' k)

/-- the deck at d, its cells at c, behind n draws -/
def DeckAt (H : Hp) (d c : Addr) (n : Nat) : Prop := c ≠ d ∧ ∃ (b : Int) (cells : List Int), H d = some (.lst [.ref c, .int b, .int n]) ∧ H c = some (.lst (cells.map V.int)) ∧ cells.length ≤ 63
theorem DeckAt.same {H H' : Hp} {d c : Addr} {n : Nat} (D : DeckAt H d c n) (s : Same H H') : DeckAt H' d c n := by
  obtain ⟨h, b, cells, h1, h2, h3⟩ := D
  exact ⟨h, b, cells, s _ _ h1, s _ _ h2, h3⟩
theorem DeckAt.ned {H : Hp} {d c p : Addr} {n : Nat} (D : DeckAt H d c n) (hp : H p = none) : p ≠ d ∧ p ≠ c := by
  obtain ⟨h, b, cells, h1, h2, h3⟩ := D
  exact ⟨fun e => (by rw [e, h1] at hp; cases hp), fun e => (by rw [e, h2] at hp; cases hp)⟩
theorem DeckAt.new {H : Hp} {d c p : Addr} {n : Nat} {o : HO} (D : DeckAt H d c n) (hp : H p = none) : DeckAt (upd H p o) d c n := D.same (Same.upd hp)
theorem DeckAt.set {H : Hp} {d c p : Addr} {n : Nat} {o : HO} (D : DeckAt H d c n) (h1 : p ≠ d) (h2 : p ≠ c) : DeckAt (upd H p o) d c n := by
  obtain ⟨h, b, cells, e1, e2, e3⟩ := D
  exact ⟨h, b, cells, by rw [upd_ne (Ne.symm h1)]; exact e1, by rw [upd_ne (Ne.symm h2)]; exact e2, e3⟩

/-- a draw below bd: any number there is -/
def spDraw : Sp := fun vs H Q _ => ∃ (d c : Addr) (n : Nat) (bd : Int), vs = [.ref d, .int bd] ∧ 0 < bd ∧ bd < 1073741824 ∧ n < 1000000 ∧ DeckAt H d c n ∧
  ∀ (H' : Hp) (r : Int), 0 ≤ r → r < bd → DeckAt H' d c (n + 1) → But d c H H' → Q (.int r) H'

/-- an item of a list or a tuple, or a sign of a text -/
inductive Some1 (K : PySem.W.Frag) (H : Hp) : V → List V → Prop
  | lst {a : Addr} {xs : List V} (h : SqL K H a xs) : Some1 K H (.ref a) xs
  | txt (z : Str) (h : z.length ≤ sizeLine) : Some1 K H (.str z) ((letts z).map V.str)
def spPick (K : PySem.W.Frag) : Sp := fun vs H Q _ => ∃ (d c : Addr) (n : Nat) (x : V) (xs : List V), vs = [.ref d, x] ∧ xs ≠ [] ∧ xs.length < 1073741824 ∧ n < 1000000 ∧ DeckAt H d c n ∧ Stay d c (fun H' => Some1 K H' x xs) H ∧
  ∀ (H' : Hp) (y : V), y ∈ xs → DeckAt H' d c (n + 1) → But d c H H' → Q y H'
end Ami

set_option Elab.async false
set_option linter.all false
set_option maxRecDepth 100000
set_option maxHeartbeats 2000000
namespace Ami
open PySem PySem.Spec PyProof.Rows L2

/-! ### rows of flat values as data -/
def fD : V → PyData
  | .bl b => .bool b
  | .int i => .int i
  | .str x => .str x
  | _ => .none
/-- None, a bool, an int, a text that can be laid -/
def okF : V → Bool
  | .non => true
  | .bl _ => true
  | .int _ => true
  | .str x => PyData.strOk x
  | _ => false
theorem dp_flat {K : PySem.W.Frag} {H : Hp} : ∀ {v : V}, okF v = true → Dp K H v (fD v)
  | .non, _ => .non
  | .bl b, _ => .bl b
  | .int i, _ => .int i
  | .str x, _ => .str x
theorem dpAll_flat {K : PySem.W.Frag} {H : Hp} : ∀ {xs : List V}, xs.all okF = true → DpAll K H xs (xs.map fD)
  | [], _ => .nil
  | v :: xs, h => by
    rw [List.all_cons, Bool.and_eq_true] at h
    exact .cons (dp_flat h.1) (dpAll_flat h.2)
theorem dq_flat {K : PySem.W.Frag} {H : Hp} : ∀ {v : V}, okF v = true → Dq K H v (fD v)
  | .non, _ => .non
  | .bl b, _ => .bl b
  | .int i, _ => .int i
  | .str x, _ => .str x
theorem dqAll_flat {K : PySem.W.Frag} {H : Hp} : ∀ {xs : List V}, xs.all okF = true → DqAll K H xs (xs.map fD)
  | [], _ => .nil
  | v :: xs, h => by
    rw [List.all_cons, Bool.and_eq_true] at h
    exact .cons (dq_flat h.1) (dqAll_flat h.2)
theorem canLay_flat : ∀ {v : V}, okF v = true → (fD v).canLay0 = true
  | .non, _ => rfl
  | .bl _, _ => rfl
  | .int _, _ => rfl
  | .str x, h => h
theorem canLayAll_flat : ∀ {xs : List V}, xs.all okF = true → PyData.canLayAll0 (xs.map fD) = true
  | [], _ => rfl
  | v :: xs, h => by
    rw [List.all_cons, Bool.and_eq_true] at h
    show ((fD v).canLay0 && PyData.canLayAll0 (xs.map fD)) = true
    rw [canLay_flat h.1, canLayAll_flat h.2]; rfl
theorem depth_flat : ∀ v : V, (fD v).depth = 0
  | .non => rfl
  | .bl _ => rfl
  | .int _ => rfl
  | .str _ => rfl
  | .byt _ => rfl
  | .flt _ => rfl
  | .ref _ => rfl
  | .ty _ => rfl
theorem depthAll_flat : ∀ xs : List V, PyData.depthAll (xs.map fD) = 0
  | [] => rfl
  | v :: xs => by
    show max (fD v).depth (PyData.depthAll (xs.map fD)) = 0
    rw [depth_flat, depthAll_flat]; rfl
theorem shaped_list {xs : List V} (h : xs.all okF = true) : SeqAt.shaped (.list (xs.map fD)) = true := by
  show ((PyData.list (xs.map fD)).canLay0 && decide ((PyData.list (xs.map fD)).depth ≤ 64)) = true
  have e1 : (PyData.list (xs.map fD)).canLay0 = true := canLayAll_flat h
  have e2 : (PyData.list (xs.map fD)).depth = 1 := by
    show PyData.depthAll (xs.map fD) + 1 = 1
    rw [depthAll_flat]
  rw [e1, e2]; rfl
theorem shaped_tup {xs : List V} (h : xs.all okF = true) : SeqAt.shaped (.tuple (xs.map fD)) = true := by
  show ((PyData.tuple (xs.map fD)).canLay0 && decide ((PyData.tuple (xs.map fD)).depth ≤ 64)) = true
  have e1 : (PyData.tuple (xs.map fD)).canLay0 = true := canLayAll_flat h
  have e2 : (PyData.tuple (xs.map fD)).depth = 1 := by
    show PyData.depthAll (xs.map fD) + 1 = 1
    rw [depthAll_flat]
  rw [e1, e2]; rfl
theorem eqvAll_nil : ∀ xs : List V, PyData.eqvAll (xs.map fD) [] = xs.isEmpty
  | [] => rfl
  | _ :: _ => rfl
theorem all_ints (ns : List Int) : (ns.map V.int).all okF = true := by
  rw [List.all_eq_true]
  intro v hv
  obtain ⟨n, _, rfl⟩ := List.mem_map.mp hv
  rfl
theorem all_bls (bs : List Bool) : (bs.map V.bl).all okF = true := by
  rw [List.all_eq_true]
  intro v hv
  obtain ⟨n, _, rfl⟩ := List.mem_map.mp hv
  rfl

/-- xs != [], xs == [] over flat items: the answer -/
theorem ne_nil {K : PySem.W.Frag} {H : Hp} {a p : Addr} {xs : List V} {Q : VK} (ha : SqL K H a xs) (hp : SqL K H p []) (h : xs.all okF = true) (q : Q (.bl (!xs.isEmpty)) H) : rNeD K (.ref a) (.ref p) H Q :=
  ⟨_, _, .lst ha (dpAll_flat h), .lst hp .nil, shaped_list h, rfl, by
    have e : PyData.eqv (.list (xs.map fD)) (.list []) = xs.isEmpty := eqvAll_nil xs
    rw [e]; exact q⟩
theorem eq_nil {K : PySem.W.Frag} {H : Hp} {a p : Addr} {xs : List V} {Q : VK} (ha : SqL K H a xs) (hp : SqL K H p []) (h : xs.all okF = true) (q : Q (.bl xs.isEmpty) H) : rEqD K (.ref a) (.ref p) H Q :=
  ⟨_, _, .lst ha (dpAll_flat h), .lst hp .nil, shaped_list h, rfl, by
    have e : PyData.eqv (.list (xs.map fD)) (.list []) = xs.isEmpty := eqvAll_nil xs
    rw [e]; exact q⟩
theorem pow18 : CPow 10 18 := ⟨by decide, by decide, by decide⟩
theorem pow39 : CPow 10 39 := ⟨by decide, by decide, by decide⟩
theorem mod_range (a : Int) {m : Int} (h : 0 < m) : 0 ≤ a % m ∧ a % m < m := ⟨Int.emod_nonneg _ (by omega), Int.emod_lt_of_pos _ h⟩
end Ami

set_option Elab.async false
set_option linter.all false
set_option maxRecDepth 100000
set_option maxHeartbeats 2000000
namespace Ami
open PySem PySem.Spec PyProof.Rows L2

/-! ### texts of signs, sorted and joined -/
theorem joinOnes (cs : List Nat) : Txt.join ⟨#[]⟩ (cs.map one) = ⟨cs.toArray⟩ := by
  have h := join_nil_signs ⟨cs.toArray⟩
  have e : PyProof.Rows.signs ⟨cs.toArray⟩ = cs.map one := rfl
  rw [e] at h
  show Builtin.Str.glued ⟨#[]⟩ (cs.map one) = _
  rw [StrLaws.glued_eq_join]
  exact h
theorem eraseMap {α β : Type} (f : α → β) : ∀ (l : List α) (n : Nat), (l.map f).eraseIdx n = (l.eraseIdx n).map f
  | [], _ => rfl
  | _ :: _, 0 => rfl
  | a :: l, n + 1 => by
    show f a :: (l.map f).eraseIdx n = f a :: (l.eraseIdx n).map f
    rw [eraseMap f l n]
theorem one_inj {a b : Nat} (h : one a = one b) : a = b := by
  have e : [a] = [b] := congrArg (fun y : Str => y.cps.toList) h
  exact (List.cons.inj e).1
theorem unmap_ones {ys : List Str} {cs : List Nat} (h : ys.Perm (cs.map one)) : ∃ ds : List Nat, ys = ds.map one ∧ ds.Perm cs := by
  have e : ys = (ys.map fun y => y.cps.getD 0 0).map one := by
    rw [List.map_map]
    conv => lhs; rw [← List.map_id ys]
    refine List.map_congr_left fun y hy => ?_
    obtain ⟨c, _, rfl⟩ := List.mem_map.mp (h.mem_iff.mp hy)
    rfl
  refine ⟨ys.map fun y => y.cps.getD 0 0, e, ?_⟩
  have q := h.map fun y => y.cps.getD 0 0
  rw [List.map_map] at q
  have e2 : cs.map ((fun y : Str => y.cps.getD 0 0) ∘ one) = cs := by
    conv => rhs; rw [← List.map_id cs]
    exact List.map_congr_left fun _ _ => rfl
  rw [e2] at q
  exact q
theorem rising_ones : ∀ (p : Nat) (cs : List Nat), risingS (one p) (cs.map one) = true → (p :: cs).Pairwise (· ≤ ·)
  | p, [], _ => List.pairwise_singleton _ _
  | p, x :: r, h => by
    have h' : (!ltCps [x] [p] && risingS (one x) (r.map one)) = true := h
    rw [Bool.and_eq_true] at h'
    have ih := rising_ones x r h'.2
    have hx : p ≤ x := by
      have e : ltCps [x] [p] = false := by simpa using h'.1
      have e2 : (decide (x < p) || (x == p && false)) = false := e
      simp at e2
      omega
    refine List.pairwise_cons.mpr ⟨fun y hy => ?_, ih⟩
    rcases List.mem_cons.mp hy with rfl | hy
    · exact hx
    · exact Nat.le_trans hx ((List.pairwise_cons.mp ih).1 y hy)
theorem sorted_ones : ∀ {cs : List Nat}, sortedS (cs.map one) = true → cs.Pairwise (· ≤ ·)
  | [], _ => .nil
  | x :: r, h => rising_ones x r h
theorem lt_of_le {cs : List Nat} (h : cs.Pairwise (· ≤ ·)) (nd : cs.Nodup) : cs.Pairwise (· < ·) := by
  induction cs with
  | nil => exact .nil
  | cons x r ih =>
    obtain ⟨h1, h2⟩ := List.pairwise_cons.mp h
    obtain ⟨n1, n2⟩ := List.nodup_cons.mp nd
    refine List.pairwise_cons.mpr ⟨fun y hy => ?_, ih h2 n2⟩
    have := h1 y hy
    have : x ≠ y := fun e => n1 (e ▸ hy)
    omega
/-- two rising rows with the same members are one -/
theorem rows_eq {xs ys : List Nat} (hx : xs.Pairwise (· < ·)) (hy : ys.Pairwise (· < ·)) (h : ∀ c, c ∈ xs ↔ c ∈ ys) : xs = ys := by
  have nx : xs.Nodup := hx.imp fun a => Nat.ne_of_lt a
  have ny : ys.Nodup := hy.imp fun a => Nat.ne_of_lt a
  have p : xs.Perm ys := (List.perm_ext_iff_of_nodup nx ny).mpr h
  exact p.eq_of_pairwise (fun a b _ _ h1 h2 => absurd (Nat.lt_trans h1 h2) (Nat.lt_irrefl _)) hx hy

/-- all signs below 128 -/
def Asc (z : Str) : Prop := ∀ c ∈ z.cps.toList, c < 128
theorem Asc.mem {z y : Str} (h : Asc z) (k : ∀ c ∈ y.cps.toList, c ∈ z.cps.toList) : Asc y := fun c hc => h c (k c hc)
theorem Asc.append {z y : Str} (h : Asc z) (k : Asc y) : Asc (z ++ y) := fun c hc => by
  have e : (z ++ y).cps.toList = z.cps.toList ++ y.cps.toList := Array.toList_append
  rw [e] at hc
  exact (List.mem_append.mp hc).elim (h c) (k c)
theorem Asc.cut {z : Str} (h : Asc z) (lo hi : Option Int) : Asc (cutS z lo hi) := h.mem fun c hc => List.mem_of_mem_drop (List.mem_of_mem_take hc)
theorem Asc.rev {z : Str} (h : Asc z) : Asc (revS z) := h.mem fun c hc => List.mem_reverse.mp hc
theorem Asc.rep {z : Str} (h : Asc z) (n : Nat) : Asc (repS z n) := h.mem fun c hc => repS_mem hc
theorem Asc.ok {z : Str} (h : Asc z) : PyData.strOk z = true := by
  show (z.cps.all (· < 0x110000)) = true
  rw [← Array.all_toList, List.all_eq_true]
  intro c hc
  have := h c hc
  exact decide_eq_true (by omega)
theorem Asc.repr {z : Str} (h : Asc z) (hl : z.length ≤ 100000) : (reprText z).length ≤ sizeLine := by
  have := StrLaws.reprText_len z fun c hc => Nat.lt_of_lt_of_le (h c hc) (by decide)
  rw [sizeLine_eq]
  omega
theorem append_length (z y : Str) : (z ++ y).length = z.length + y.length := Str.length_append z y

/-- letters as the laws draw them: two to so many of ten letters, ascending -/
def pool : List Nat := [97, 98, 99, 100, 101, 104, 109, 120, 121, 122]
def Sgn (top : Nat) (z : Str) : Prop := ∃ cs : List Nat, z = ⟨cs.toArray⟩ ∧ cs.Pairwise (· < ·) ∧ 2 ≤ cs.length ∧ cs.length ≤ top ∧ ∀ c ∈ cs, c ∈ pool
theorem Sgn.len {top : Nat} {z : Str} (h : Sgn top z) : 2 ≤ z.length ∧ z.length ≤ top := by
  obtain ⟨cs, rfl, _, h1, h2, _⟩ := h
  have e : (⟨cs.toArray⟩ : Str).length = cs.length := by simp [Str.length]
  omega
theorem Sgn.asc {top : Nat} {z : Str} (h : Sgn top z) : Asc z := by
  obtain ⟨cs, rfl, _, _, _, h3⟩ := h
  intro c hc
  have := h3 c hc
  simp [pool] at this
  omega
/-- letters drawn, as a promise -/
def spSigns : Sp := fun vs H Q _ => ∃ (d c : Addr) (n top : Nat), vs = [.ref d, .int top] ∧ 2 ≤ top ∧ top ≤ 10 ∧ n + 20 < 1000000 ∧ DeckAt H d c n ∧
  ∀ (H' : Hp) (z : Str) (n' : Nat), Sgn top z → n' ≤ n + 11 → DeckAt H' d c n' → But d c H H' → Q (.str z) H'
end Ami

set_option Elab.async false
set_option linter.all false
set_option maxRecDepth 100000
set_option maxHeartbeats 2000000
namespace Ami
open PySem PySem.Spec PyProof.Rows L2
theorem Same.seqT {K : PySem.W.Frag} {H H' : Hp} {a : Addr} {xs : List V} (e : Same H H') (h : SqT K H a xs) : SqT K H' a xs := by
  rcases h with (h | ⟨o, h⟩) | h
  · exact .inl (.inl (e _ _ h))
  · exact .inl (.inr ⟨o, e _ _ h⟩)
  · exact .inr h
theorem TyOf.same {K : PySem.W.Frag} {H H' : Hp} (e : Same H H') {x : V} {t : Value} (h : TyOf K H x t) : TyOf K H' x t := by
  cases h with
  | non => exact .non
  | bl b => exact .bl b
  | int i => exact .int i
  | str z => exact .str z
  | flt z => exact .flt z
  | lst h => exact .lst (e _ _ h)
  | frz h => exact .frz (e _ _ h)
  | tup h => exact .tup (e _ _ h)
  | dK h => exact .dK (e _ _ h)
  | dT h => exact .dT (e _ _ h)
  | ins h cl ha hn htk hm => exact .ins (e _ _ h) cl ha hn htk hm
theorem TyX.same {K : PySem.W.Frag} {H H' : Hp} (e : Same H H') {x : V} {t : Value} (h : TyX K H x t) : TyX K H' x t := by
  cases h with
  | base h => exact .base (TyOf.same e h)
  | byt b => exact .byt b
  | set h => exact .set (e _ _ h)
  | kList h c => exact .kList h c
  | kTuple h c => exact .kTuple h c
  | kDict h c => exact .kDict h c
  | fTuple h => exact .fTuple (e _ _ h)
  | fDict h => exact .fDict (e _ _ h)
theorem Dq.up {K : PySem.W.Frag} {H H' : Hp} (e : Same H H') {v : V} {d : PyData} (h : Dq K H v d) : Dq K H' v d :=
  h.same fun a => ⟨fun _ q => e.seq q, fun _ q => Same.seqT e q, fun _ q => e _ _ q⟩
/-- a row of two answers, as data -/
def D2b (b : Bool) : PyData := .list [.bool b, .bool b]
theorem d2_len (b : Bool) : (D2b b).shown.length ≤ sizeLine := by cases b <;> decide +kernel
theorem d2_at {K : PySem.W.Frag} {H : Hp} {a : Addr} {b : Bool} (h : H a = some (.lst [.bl b, .bl b])) : Dq K H (.ref a) (D2b b) := .lst (SqL.of h) (.cons (.bl b) (.cons (.bl b) .nil))
/-- by keyword, one parameter -/
def g1 {α : Type} : List α → List α → List α
  | [], [t] => [t]
  | _, _ => []
/-- by keywords, two parameters, the second one first -/
def g2 {α : Type} : List α → List α → List α
  | [], [t, l] => [l, t]
  | _, _ => []
theorem g1_rel {vs : List V} {us : List Value} {zs : List V} {ws : List Value} (r : Vals vs us) (rz : Vals zs ws) : Vals (g1 vs zs) (g1 us ws) := by
  cases r with
  | cons a b => exact .nil
  | nil =>
    cases rz with
    | nil => exact .nil
    | cons a b =>
      cases b with
      | nil => exact .cons a .nil
      | cons _ _ => exact .nil
theorem g2_rel {vs : List V} {us : List Value} {zs : List V} {ws : List Value} (r : Vals vs us) (rz : Vals zs ws) : Vals (g2 vs zs) (g2 us ws) := by
  cases r with
  | cons a b => exact .nil
  | nil =>
    cases rz with
    | nil => exact .nil
    | cons a b =>
      cases b with
      | nil => exact .nil
      | cons a2 b2 =>
        cases b2 with
        | nil => exact .cons a2 (.cons a .nil)
        | cons _ _ => exact .nil
end Ami

set_option Elab.async false
set_option linter.all false
set_option maxRecDepth 100000
set_option maxHeartbeats 2000000
namespace Ami
open PySem PySem.Spec PyProof.Rows L2
theorem leaves_texts : ∀ {ss : List Str}, (∀ z ∈ ss, Asc z) → PyData.leavesShortAll 8 ((ss.map V.str).map fD) = true
  | [], _ => rfl
  | z :: ss, h => by
    show ((z.cps.toList.all fun c => decide (c < 16 ^ 8)) && PyData.leavesShortAll 8 ((ss.map V.str).map fD)) = true
    rw [Bool.and_eq_true]
    refine ⟨List.all_eq_true.mpr fun c hc => decide_eq_true (Nat.lt_of_lt_of_le (h z List.mem_cons_self c hc) (by decide)), leaves_texts fun y hy => h y (List.mem_cons_of_mem _ hy)⟩
theorem weight_texts : ∀ ss : List Str, PyData.weightAll ((ss.map V.str).map fD) = (ss.map (fun z => z.length)).sum + ss.length
  | [] => rfl
  | z :: ss => by
    show z.cps.size + 1 + PyData.weightAll ((ss.map V.str).map fD) = z.length + (ss.map (fun z => z.length)).sum + (ss.length + 1)
    rw [weight_texts ss]
    unfold Str.length
    omega
theorem okF_texts {ss : List Str} (h : ∀ z ∈ ss, Asc z) : (ss.map V.str).all okF = true := by
  rw [List.all_eq_true]
  intro v hv
  obtain ⟨z, hz, rfl⟩ := List.mem_map.mp hv
  exact (h z hz).ok
theorem noDict_texts : ∀ ss : List Str, PyData.hasDictAll ((ss.map V.str).map fD) = false
  | [] => rfl
  | z :: ss => by show (false || PyData.hasDictAll ((ss.map V.str).map fD)) = false; rw [noDict_texts ss]; rfl
theorem showable_texts : ∀ ss : List Str, PyData.showableAll ((ss.map V.str).map fD) = true
  | [] => rfl
  | z :: ss => by show (true && PyData.showableAll ((ss.map V.str).map fD)) = true; rw [showable_texts ss]; rfl
theorem shownL_texts {ss : List Str} (h : ∀ z ∈ ss, Asc z) (hl : (ss.map (fun z => z.length)).sum + ss.length ≤ 1000000) : (PyData.list ((ss.map V.str).map fD)).shown.length ≤ sizeLine := by
  have q := PyData.shown_le 8 (Nat.le_refl _) (.list ((ss.map V.str).map fD)) (leaves_texts h)
  have e : PyData.weight (.list ((ss.map V.str).map fD)) = (ss.map (fun z => z.length)).sum + ss.length := weight_texts ss
  rw [e] at q
  rw [sizeLine_eq]
  omega
theorem shownT_texts {ss : List Str} (h : ∀ z ∈ ss, Asc z) (hl : (ss.map (fun z => z.length)).sum + ss.length ≤ 1000000) : (PyData.tuple ((ss.map V.str).map fD)).shown.length ≤ sizeLine := by
  have q := PyData.shown_le 8 (Nat.le_refl _) (.tuple ((ss.map V.str).map fD)) (leaves_texts h)
  have e : PyData.weight (.tuple ((ss.map V.str).map fD)) = (ss.map (fun z => z.length)).sum + ss.length := weight_texts ss
  rw [e] at q
  rw [sizeLine_eq]
  omega
theorem ones_sum (z : Str) : ((letts z).map (fun y => y.length)).sum = z.length := by
  unfold letts
  rw [List.map_map]
  have e : (fun y : Str => y.length) ∘ one = fun _ => 1 := rfl
  rw [e, List.map_const', List.sum_replicate_nat]
  show z.cps.toList.length * 1 = z.cps.size
  rw [Array.length_toList]; omega
theorem letts_asc {z : Str} (h : Asc z) : ∀ y ∈ letts z, Asc y := by
  intro y hy
  obtain ⟨c, hc, rfl⟩ := List.mem_map.mp hy
  intro d hd
  have : d = c := by simpa [one] using hd
  rw [this]
  exact h c hc
end Ami

set_option Elab.async false
set_option linter.all false
set_option maxRecDepth 100000
set_option maxHeartbeats 1000000
/-! enumerate(xs, start=k), of a list and of a tuple. -/
namespace Ami
open PySem PySem.Spec PyProof.Rows L2
section
variable {M : Model} {A : Around} {E : Value → Shared → Prop} {s : Shared} {env : Env}
/-- a built-in class called with keywords -/
theorem callT_kw {pos : Pos} {T : String} {e : Expr} {rest : List Expr} {kws : List Keyword} {Q : Value → Shared → Prop}
    (h : wpAny M A (spliced (backTo pos (starEach (e :: rest) env))) (fun vs s₁ => wpAny M A (evalAll ((backToKw pos (keywordEach kws env)).map (·.2)))
      (fun ks s₂ => wpAny M A (call (.type T) vs (((backToKw pos (keywordEach kws env)).filterMap (·.1)).zip ks)) Q E s₂) E s₁) E s)
    (he : backTo pos (starEach (e :: rest) env) = (false, eval e env) :: backTo pos (starEach rest env))
    (hp : (backTo pos (starEach (e :: rest) env)).any (·.1) = false) (hall : (backToKw pos (keywordEach kws env)).all (·.1.isSome) = true) (hn : (backToKw pos (keywordEach kws env)).any (·.1.isNone) = false) :
    wpAny M A (callWith pos (.type T) [] (backTo pos (starEach (e :: rest) env)) (backToKw pos (keywordEach kws env))) Q E s := by
  unfold callWith
  have g : wpAny M A (evalArgs (.type T) true (backTo pos (starEach (e :: rest) env)) (backToKw pos (keywordEach kws env))) (fun a s₁ => wpAny M A (call (.type T) ([] ++ a.pos) a.kw) Q E s₁) E s := by
    rw [he] at h ⊢
    exact evalArgs_kwB hall h
  refine wpAny_bind (wpAny_holding (wpAny_mono g (fun a s₁ h₁ => wpAny_bind (wpAny_standAt ?_)) fun _ _ z => z))
  simp only [hp, hn, Bool.or_false]
  refine wpAny_bind (wpAny_pure ?_)
  exact wpAny_bind (wpAny_mono h₁ (fun r s₂ hr => wpAny_bind (wpAny_holding (wpAny_point (wpAny_pure hr)))) fun _ _ z => z)
end
/-- the list at a as it stands at each turn, each item with a count from k on in a new pair -/
def IteF (K : PySem.W.Frag) (a : Addr) (k : Int) : It :=
  ⟨fun i H => ∃ (xs : List V) (x : V), SqL K H a xs ∧ xs[i]? = some x, fun i H v H' => ∃ T x, v = .ref T ∧ H T = none ∧ H' = upd H T (.tup [.int (k + (i : Nat)), x]) ∧ ∀ xs, SqL K H a xs → xs[i]? = some x, fun i H => ∃ xs : List V, SqL K H a xs ∧ xs.length = i⟩
theorem apart_IteF {h : Heap} {e it a : Addr} {c : Int} {old : Value} {i : Nat} {items : Array Value} (he : IsEnum h e it c old) (hit : h.IsListIter it a i) (pl : h.IsList a items) :
    e < h.objs.size ∧ it < h.objs.size ∧ e ≠ a ∧ a ≠ it := by
  obtain ⟨o, ho, hc, hd⟩ := hit
  obtain ⟨o2, h2, c2, _⟩ := pl
  refine ⟨Heap.lt_size he, Heap.lt_size ho, fun z => ?_, fun z => ?_⟩
  · rw [z] at he
    rw [he] at h2
    cases h2
    exact absurd (Value.type.inj c2) (by decide)
  · rw [z] at h2
    rw [ho] at h2
    cases h2
    rw [hc] at c2
    exact absurd (Value.type.inj c2) (by decide)
theorem turn_IteF {P : Program} {w : World} {K : PySem.W.Frag} {elts : List Expr} {kk : Nat} {tpos : Pos} (a e it : Addr) (k : Int) :
    Turn P w K (.Tuple elts kk tpos) (IteF K a k) [e, it] e (fun i h => (∃ old, IsEnum h e it (k + (i : Nat)) old) ∧ h.IsListIter it a i ∧ e ≠ it) where
  mem := by simp
  obj := fun i h st b hb => by
    obtain ⟨⟨old, he⟩, ⟨o, ho, hc, hd⟩, _⟩ := st
    rcases (by simpa using hb : b = e ∨ b = it) with z | z
    · subst z
      exact ⟨_, he, fun v q => nomatch q⟩
    · exact ⟨o, z ▸ ho, fun v q => by rw [hd] at q; cases q⟩
  keep := fun i h h' st kp => by
    obtain ⟨⟨old, he⟩, hi, hne⟩ := st
    exact ⟨⟨old, kp e (by simp) _ he⟩, hi.at fun o q => kp it (by simp) o q, hne⟩
  item := by
    intro X hP hw hK hc i pins s σ H E I hf st hg
    subst hP hw hK
    obtain ⟨⟨old, he⟩, hit, hne⟩ := st
    obtain ⟨xs, x, hq, hx⟩ := hg
    obtain ⟨its, rv, p, hz⟩ := I.list hq
    obtain ⟨u, hu, ru⟩ := rv.get hx
    have pl : s.heap.IsList a its.toArray := p.isList
    obtain ⟨hel, hil, nea, nai⟩ := apart_IteF he hit pl
    have D := Draws.list (prog := X.prog) (w := X.w) (A := X.A.in1) (show X.A.in1.handled = none from I.ok.hd hc) it a nai its.toArray
    have hlt : i < its.toArray.size := by
      have := (List.getElem?_eq_some_iff.mp hu).1
      simpa using this
    refine wpAny_pyNext_enum_itemC D he ⟨hit, pl⟩ hlt hne (by simp [hne, nea]) fun y h' tk hy ho hst hT hsz hk => ?_
    have ey : y = u := by
      have hy' : its[i]? = some y := by simpa using hy
      rw [hu] at hy'
      exact (Option.some.inj hy').symm
    subst ey
    refine ⟨_, rfl, wpAny_letOwnedTupleGo_enum (s := { s with heap := h', toks := tk + 1 }) ho fun h'' he' sb => ?_⟩
    have hT2 : h''.get? s.heap.objs.size = some { cls := .type "tuple", data := .seq #[.int (k + (i : Nat)) tk, y] } := (sb.2 _ (Nat.ne_of_gt hel)).trans hT
    have new : ObjOk X.prog X.w (upd H s.heap.objs.size (.tup [.int (k + (i : Nat)), x])) h'' s.heap.objs.size (.tup [.int (k + (i : Nat)), x]) :=
      ⟨by show 2 ≤ sizeLine; decide, [.int (k + (i : Nat)) tk, y], .cons ⟨_, rfl⟩ (.cons ru .nil), ⟨_, hT2, rfl, _, rfl⟩⟩
    have I1 : Inv X pins σ (upd H s.heap.objs.size (.tup [.int (k + (i : Nat)), x])) { s with heap := h'', toks := tk + 1 } :=
      I.turnedNew (ch := [e, it]) (fun b ob hb q => (sb.2 b (fun z => hb (by simp [z]))).trans (hk b ob (fun z => hb (by simp [z])) (fun z => hb (by simp [z])) q)) hf (Nat.le_refl _) new
    refine ⟨.ref s.heap.objs.size, _, I1, rfl, ⟨_, x, rfl, I.hok.fresh (Nat.le_refl _), rfl, fun ys hy => by rw [I.list_inj hy hq]; exact hx⟩, ⟨⟨y, ?_⟩, hst.1.at fun o q => (sb.2 it (Ne.symm hne)).trans q, hne⟩, fun b hb => ?_⟩
    · have e1 : k + ((i + 1 : Nat) : Int) = k + (i : Nat) + 1 := by omega
      rw [e1]; exact he'
    · have hb' : b < s.heap.objs.size := by
        rcases (by simpa using hb : b = e ∨ b = it) with z | z
        · rw [z]; exact hel
        · rw [z]; exact hil
      rw [upd_ne (Nat.ne_of_lt hb')]
      exact (hf b hb).1
  done := by
    intro X hP hw hK hc i pins s σ H E I hf st hg
    subst hP hw hK
    obtain ⟨⟨old, he⟩, hit, hne⟩ := st
    obtain ⟨xs, hq, hx⟩ := hg
    obtain ⟨its, rv, p, hz⟩ := I.list hq
    have pl : s.heap.IsList a its.toArray := p.isList
    obtain ⟨hel, hil, nea, nai⟩ := apart_IteF he hit pl
    have D := Draws.list (prog := X.prog) (w := X.w) (A := X.A.in1) (show X.A.in1.handled = none from I.ok.hd hc) it a nai its.toArray
    have hl : its.toArray.size = i := by
      have := rv.length
      rw [List.size_toArray]; omega
    obtain ⟨f0, f1, f2, f3, f4, f5⟩ := hf it (by simp)
    rw [← hl] at hit
    exact wpAny_pyNext_enum_endD D he ⟨hit, pl⟩ fun h' eb => ⟨rfl, I.turned (t' := s.toks) (fun b o hb q => eb b o hb q) f0 f1 f3 f4 f5⟩
  self := fun A i s Q E st h => by
    obtain ⟨⟨_, he⟩, _⟩ := st
    exact wpAny_pyIter_enum he h
def iEnumF (K : PySem.W.Frag) (ta tk : TA) : TI := fun σ H R => ta σ H fun vs H1 => tk σ H1 fun zs H2 => ∃ (a : Addr) (xs : List V) (k : Int), vs = [.ref a] ∧ zs = [.int k] ∧ SqL K H2 a xs ∧ -1000 ≤ k ∧ k ≤ 1000 ∧ R (IteF K a k) H2
theorem pi_enumF {X : Cx} {e : Expr} {kws : List Keyword} {ta tk : TA} {p pos tpos : Pos} {elts : List Expr} {kk : Nat} (hg : Gl X "enumerate") (hm : X.mg "enumerate" = none) (ha : PA X [e] ta) (hk : PK X kws tk)
    (he : backTo pos (starEach [e] X.env) = (false, eval e X.env) :: backTo pos (starEach [] X.env) := by rfl) (hpl : (backTo pos (starEach [e] X.env)).any (·.1) = false := by rfl)
    (hall : (backToKw pos (keywordEach kws X.env)).all (·.1.isSome) = true := by rfl) (hnone : (backToKw pos (keywordEach kws X.env)).any (·.1.isNone) = false := by rfl) (hks : (backToKw pos (keywordEach kws X.env)).filterMap (·.1) = [Str.ofString "start"] := by rfl) :
    PI X (.Tuple elts kk tpos) (.Call (.Name "enumerate" p) [e] kws pos) (iEnumF X.K ta tk) := by
  refine ⟨fun pins s σ H R I h => ?_⟩
  refine wpAny_Call_Name_kw (ld_blt I hg hm boot_enumerate (callT_kw (thn (ha.run pos pins s σ H _ I h) fun us s1 ⟨vs, H1, I1, r1, q1⟩ => thn (hk.run pos pins s1 σ H1 _ I1 q1) fun ws s2 ⟨zs, H2, I2, r2, q2⟩ => ?_) he hpl hall hnone))
  rw [hks]
  obtain ⟨a, xs, k, rfl, rfl, hq, k0, k1, q⟩ := q2
  cases r1 with
  | cons r rr =>
    cases rr
    cases r
    cases r2 with
    | cons r rr =>
      cases rr
      obtain ⟨t, rfl⟩ := r
      obtain ⟨its, rv, p', hz⟩ := I2.list hq
      have pl : s2.heap.IsList a its.toArray := p'.isList
      refine enum_begins_start (t := t) (begins_list a its.toArray) pl (by omega) (by omega) fun h' he hit hsz hk => wpAny_pyIter_enum he ?_
      have I3 : Inv X pins σ H2 { s2 with heap := h' } := I2.kept (t' := s2.toks) hk
      refine ⟨s2.heap.objs.size + 1, [s2.heap.objs.size + 1, s2.heap.objs.size], _, _, H2, rfl, I3, turn_IteF a (s2.heap.objs.size + 1) s2.heap.objs.size k, ⟨⟨.none, ?_⟩, ⟨_, hit, rfl, rfl⟩, Nat.succ_ne_self _⟩, fun b hb => ?_, q⟩
      · rw [show k + ((0 : Nat) : Int) = k from Int.add_zero k]; exact he
      · have hle : s2.heap.objs.size ≤ b := by
          rcases (by simpa using hb : b = s2.heap.objs.size + 1 ∨ b = s2.heap.objs.size) with z | z
          · rw [z]; exact Nat.le_add_right _ _
          · rw [z]; exact Nat.le_refl _
        exact I2.fpOk hle (I2.hok.fresh hle)
theorem walk_enumF {K : PySem.W.Frag} {a : Addr} {k : Int} {xs : List V} : Walk (IteF K a k) xs.length (fun H => SqL K H a xs) (fun i H v H' => ∃ T x, v = .ref T ∧ H T = none ∧ H' = upd H T (.tup [.int (k + (i : Nat)), x]) ∧ xs[i]? = some x) :=
  ⟨fun i _ hi q => ⟨xs, xs[i], q, by simp [hi]⟩, fun _ q => ⟨xs, q, rfl⟩, fun _ _ _ _ _ q ⟨T, x, e1, e2, e3, e4⟩ => ⟨T, x, e1, e2, e3, e4 xs q⟩⟩
/-- the tuple at a as it stands at each turn, each item with a count from k on in a new pair -/
def IteT (K : PySem.W.Frag) (a : Addr) (k : Int) : It :=
  ⟨fun i H => ∃ (xs : List V) (x : V), SqT K H a xs ∧ xs[i]? = some x, fun i H v H' => ∃ T x, v = .ref T ∧ H T = none ∧ H' = upd H T (.tup [.int (k + (i : Nat)), x]) ∧ ∀ xs, SqT K H a xs → xs[i]? = some x, fun i H => ∃ xs : List V, SqT K H a xs ∧ xs.length = i⟩
theorem apart_IteT {h : Heap} {e it a : Addr} {c : Int} {old : Value} {i : Nat} {items : Array Value} (he : IsEnum h e it c old) (hit : h.IsTupleIter it a i) (pl : h.IsTuple a items) :
    e < h.objs.size ∧ it < h.objs.size ∧ e ≠ a ∧ a ≠ it := by
  obtain ⟨o, ho, hc, hd⟩ := hit
  obtain ⟨o2, h2, c2, _⟩ := pl
  refine ⟨Heap.lt_size he, Heap.lt_size ho, fun z => ?_, fun z => ?_⟩
  · rw [z] at he
    rw [he] at h2
    cases h2
    exact absurd (Value.type.inj c2) (by decide)
  · rw [z] at h2
    rw [ho] at h2
    cases h2
    rw [hc] at c2
    exact absurd (Value.type.inj c2) (by decide)
theorem turn_IteT {P : Program} {w : World} {K : PySem.W.Frag} {elts : List Expr} {kk : Nat} {tpos : Pos} (a e it : Addr) (k : Int) :
    Turn P w K (.Tuple elts kk tpos) (IteT K a k) [e, it] e (fun i h => (∃ old, IsEnum h e it (k + (i : Nat)) old) ∧ h.IsTupleIter it a i ∧ e ≠ it) where
  mem := by simp
  obj := fun i h st b hb => by
    obtain ⟨⟨old, he⟩, ⟨o, ho, hc, hd⟩, _⟩ := st
    rcases (by simpa using hb : b = e ∨ b = it) with z | z
    · subst z
      exact ⟨_, he, fun v q => nomatch q⟩
    · exact ⟨o, z ▸ ho, fun v q => by rw [hd] at q; cases q⟩
  keep := fun i h h' st kp => by
    obtain ⟨⟨old, he⟩, hi, hne⟩ := st
    exact ⟨⟨old, kp e (by simp) _ he⟩, hi.at fun o q => kp it (by simp) o q, hne⟩
  item := by
    intro X hP hw hK hc i pins s σ H E I hf st hg
    subst hP hw hK
    obtain ⟨⟨old, he⟩, hit, hne⟩ := st
    obtain ⟨xs, x, hq, hx⟩ := hg
    obtain ⟨its, rv, p, hz⟩ := I.tuple hq
    obtain ⟨u, hu, ru⟩ := rv.get hx
    have pl : s.heap.IsTuple a its.toArray := (show s.heap.IsTuple a its.toArray from p)
    obtain ⟨hel, hil, nea, nai⟩ := apart_IteT he hit pl
    have D := Draws.tuple (prog := X.prog) (w := X.w) (A := X.A.in1) (show X.A.in1.handled = none from I.ok.hd hc) it a nai its.toArray
    have hlt : i < its.toArray.size := by
      have := (List.getElem?_eq_some_iff.mp hu).1
      simpa using this
    refine wpAny_pyNext_enum_itemC D he ⟨hit, pl⟩ hlt hne (by simp [hne, nea]) fun y h' tk hy ho hst hT hsz hk => ?_
    have ey : y = u := by
      have hy' : its[i]? = some y := by simpa using hy
      rw [hu] at hy'
      exact (Option.some.inj hy').symm
    subst ey
    refine ⟨_, rfl, wpAny_letOwnedTupleGo_enum (s := { s with heap := h', toks := tk + 1 }) ho fun h'' he' sb => ?_⟩
    have hT2 : h''.get? s.heap.objs.size = some { cls := .type "tuple", data := .seq #[.int (k + (i : Nat)) tk, y] } := (sb.2 _ (Nat.ne_of_gt hel)).trans hT
    have new : ObjOk X.prog X.w (upd H s.heap.objs.size (.tup [.int (k + (i : Nat)), x])) h'' s.heap.objs.size (.tup [.int (k + (i : Nat)), x]) :=
      ⟨by show 2 ≤ sizeLine; decide, [.int (k + (i : Nat)) tk, y], .cons ⟨_, rfl⟩ (.cons ru .nil), ⟨_, hT2, rfl, _, rfl⟩⟩
    have I1 : Inv X pins σ (upd H s.heap.objs.size (.tup [.int (k + (i : Nat)), x])) { s with heap := h'', toks := tk + 1 } :=
      I.turnedNew (ch := [e, it]) (fun b ob hb q => (sb.2 b (fun z => hb (by simp [z]))).trans (hk b ob (fun z => hb (by simp [z])) (fun z => hb (by simp [z])) q)) hf (Nat.le_refl _) new
    refine ⟨.ref s.heap.objs.size, _, I1, rfl, ⟨_, x, rfl, I.hok.fresh (Nat.le_refl _), rfl, fun ys hy => by rw [I.tuple_inj hy hq]; exact hx⟩, ⟨⟨y, ?_⟩, hst.1.at fun o q => (sb.2 it (Ne.symm hne)).trans q, hne⟩, fun b hb => ?_⟩
    · have e1 : k + ((i + 1 : Nat) : Int) = k + (i : Nat) + 1 := by omega
      rw [e1]; exact he'
    · have hb' : b < s.heap.objs.size := by
        rcases (by simpa using hb : b = e ∨ b = it) with z | z
        · rw [z]; exact hel
        · rw [z]; exact hil
      rw [upd_ne (Nat.ne_of_lt hb')]
      exact (hf b hb).1
  done := by
    intro X hP hw hK hc i pins s σ H E I hf st hg
    subst hP hw hK
    obtain ⟨⟨old, he⟩, hit, hne⟩ := st
    obtain ⟨xs, hq, hx⟩ := hg
    obtain ⟨its, rv, p, hz⟩ := I.tuple hq
    have pl : s.heap.IsTuple a its.toArray := (show s.heap.IsTuple a its.toArray from p)
    obtain ⟨hel, hil, nea, nai⟩ := apart_IteT he hit pl
    have D := Draws.tuple (prog := X.prog) (w := X.w) (A := X.A.in1) (show X.A.in1.handled = none from I.ok.hd hc) it a nai its.toArray
    have hl : its.toArray.size = i := by
      have := rv.length
      rw [List.size_toArray]; omega
    obtain ⟨f0, f1, f2, f3, f4, f5⟩ := hf it (by simp)
    rw [← hl] at hit
    exact wpAny_pyNext_enum_endD D he ⟨hit, pl⟩ fun h' eb => ⟨rfl, I.turned (t' := s.toks) (fun b o hb q => eb b o hb q) f0 f1 f3 f4 f5⟩
  self := fun A i s Q E st h => by
    obtain ⟨⟨_, he⟩, _⟩ := st
    exact wpAny_pyIter_enum he h
def iEnumT (K : PySem.W.Frag) (ta tk : TA) : TI := fun σ H R => ta σ H fun vs H1 => tk σ H1 fun zs H2 => ∃ (a : Addr) (xs : List V) (k : Int), vs = [.ref a] ∧ zs = [.int k] ∧ SqT K H2 a xs ∧ -1000 ≤ k ∧ k ≤ 1000 ∧ R (IteT K a k) H2
theorem pi_enumT {X : Cx} {e : Expr} {kws : List Keyword} {ta tk : TA} {p pos tpos : Pos} {elts : List Expr} {kk : Nat} (hg : Gl X "enumerate") (hm : X.mg "enumerate" = none) (ha : PA X [e] ta) (hk : PK X kws tk)
    (he : backTo pos (starEach [e] X.env) = (false, eval e X.env) :: backTo pos (starEach [] X.env) := by rfl) (hpl : (backTo pos (starEach [e] X.env)).any (·.1) = false := by rfl)
    (hall : (backToKw pos (keywordEach kws X.env)).all (·.1.isSome) = true := by rfl) (hnone : (backToKw pos (keywordEach kws X.env)).any (·.1.isNone) = false := by rfl) (hks : (backToKw pos (keywordEach kws X.env)).filterMap (·.1) = [Str.ofString "start"] := by rfl) :
    PI X (.Tuple elts kk tpos) (.Call (.Name "enumerate" p) [e] kws pos) (iEnumT X.K ta tk) := by
  refine ⟨fun pins s σ H R I h => ?_⟩
  refine wpAny_Call_Name_kw (ld_blt I hg hm boot_enumerate (callT_kw (thn (ha.run pos pins s σ H _ I h) fun us s1 ⟨vs, H1, I1, r1, q1⟩ => thn (hk.run pos pins s1 σ H1 _ I1 q1) fun ws s2 ⟨zs, H2, I2, r2, q2⟩ => ?_) he hpl hall hnone))
  rw [hks]
  obtain ⟨a, xs, k, rfl, rfl, hq, k0, k1, q⟩ := q2
  cases r1 with
  | cons r rr =>
    cases rr
    cases r
    cases r2 with
    | cons r rr =>
      cases rr
      obtain ⟨t, rfl⟩ := r
      obtain ⟨its, rv, p', hz⟩ := I2.tuple hq
      have pl : s2.heap.IsTuple a its.toArray := (show s2.heap.IsTuple a its.toArray from p')
      refine enum_begins_start (t := t) (begins_tuple a its.toArray) pl (by omega) (by omega) fun h' he hit hsz hk => wpAny_pyIter_enum he ?_
      have I3 : Inv X pins σ H2 { s2 with heap := h' } := I2.kept (t' := s2.toks) hk
      refine ⟨s2.heap.objs.size + 1, [s2.heap.objs.size + 1, s2.heap.objs.size], _, _, H2, rfl, I3, turn_IteT a (s2.heap.objs.size + 1) s2.heap.objs.size k, ⟨⟨.none, ?_⟩, ⟨_, hit, rfl, rfl⟩, Nat.succ_ne_self _⟩, fun b hb => ?_, q⟩
      · rw [show k + ((0 : Nat) : Int) = k from Int.add_zero k]; exact he
      · have hle : s2.heap.objs.size ≤ b := by
          rcases (by simpa using hb : b = s2.heap.objs.size + 1 ∨ b = s2.heap.objs.size) with z | z
          · rw [z]; exact Nat.le_add_right _ _
          · rw [z]; exact Nat.le_refl _
        exact I2.fpOk hle (I2.hok.fresh hle)
theorem walk_enumT {K : PySem.W.Frag} {a : Addr} {k : Int} {xs : List V} : Walk (IteT K a k) xs.length (fun H => SqT K H a xs) (fun i H v H' => ∃ T x, v = .ref T ∧ H T = none ∧ H' = upd H T (.tup [.int (k + (i : Nat)), x]) ∧ xs[i]? = some x) :=
  ⟨fun i _ hi q => ⟨xs, xs[i], q, by simp [hi]⟩, fun _ q => ⟨xs, q, rfl⟩, fun _ _ _ _ _ q ⟨T, x, e1, e2, e3, e4⟩ => ⟨T, x, e1, e2, e3, e4 xs q⟩⟩
end Ami

set_option Elab.async false
set_option linter.all false
set_option maxRecDepth 100000
set_option maxHeartbeats 400000
/-! Dict comprehensions of two clauses. -/
namespace Ami
open PySem PySem.Spec PyProof.Rows L2
/-- the comprehension of two clauses that this file speaks of -/
abbrev dc2 (kx vx t0 i0 : Expr) (ifs0 : List Expr) (t1 i1 : Expr) (ifs1 : List Expr) (scope : Scope) (pos : Pos) : Expr := .DictComp kx vx [⟨t0, i0, ifs0, 0⟩, ⟨t1, i1, ifs1, 0⟩] scope pos
section
variable {kx vx t0 i0 t1 i1 : Expr} {ifs0 ifs1 : List Expr} {scope : Scope} {pos : Pos} {it : Value} {D : Addr} {env : Env}
/-- the tests of a clause, one behind the other -/
abbrev tested (env : Env) (ifs : List Expr) : Sem Bool := forIn ifs true fun c r => if r = true then do let ok ← isTrue c env (eval c env); pure (ForInStep.yield ok) else pure (ForInStep.yield r)
theorem turn_out : compTurn (dc2 kx vx t0 i0 ifs0 t1 i1 ifs1 scope pos) 0 it (.ref D) env = (do
    standAt i0.pos
    match ← pyNext it with
    | none => pure (.done .next)
    | some v =>
      letOwnedTupleGo t0 it v
      assign t0 env v
      if ← tested env ifs0 then
        let x ← eval i1 env
        standAt i1.pos
        let x ← foldedSetIterable i1 env x
        let _ ← runOwn (.compStart (dc2 kx vx t0 i0 ifs0 t1 i1 ifs1 scope pos) 1 (← holding [x] (pyIter x)) (.ref D) env) env
      again (.compLoop (dc2 kx vx t0 i0 ifs0 t1 i1 ifs1 scope pos) 0 it (.ref D) env)) := by rfl
theorem turn_in : compTurn (dc2 kx vx t0 i0 ifs0 t1 i1 ifs1 scope pos) 1 it (.ref D) env = (do
    standAt i1.pos
    match ← pyNext it with
    | none => pure (.done .next)
    | some v =>
      letOwnedTupleGo t1 it v
      assign t1 env v
      if ← tested env ifs1 then
        (do let kv ← eval kx env
            let vv ← holding [kv] (eval vx env)
            standAt { kx.pos with endLine := vx.pos.endLine, endCol := vx.pos.endCol }
            holding [kv, vv] (dictSet D kv vv))
      again (.compLoop (dc2 kx vx t0 i0 ifs0 t1 i1 ifs1 scope pos) 1 it (.ref D) env)) := by rfl
end
section
variable {prog : Program} {w : World} {A : Around} {R : Result → Shared → Prop} {s : Shared} {kx vx t0 i0 t1 i1 : Expr} {ifs0 ifs1 : List Expr} {scope : Scope} {pos : Pos} {it : Value} {D : Addr} {env : Env}
/-- where a raised error goes -/
abbrev lost (prog : Program) (w : World) (A : Around) (env : Env) (R : Result → Shared → Prop) : Value → Shared → Prop := notedBy (model prog w) A env fun e s' => R (.error e) s'
/-- one step of work, of which an error is lost -/
abbrev does {α : Type} (prog : Program) (w : World) (A : Around) (env : Env) (R : Result → Shared → Prop) (t : Sem α) (Q : α → Shared → Prop) (s : Shared) : Prop := wpAny (model prog w) A t Q (lost prog w A env R) s
theorem loop_out (hs : ∀ x, foldedSetIterable i1 env x = pure x) (I : Nat → Shared → Prop)
    (turn : ∀ n s, I n s → does prog w A env R (pyNext it) (fun r s₁ => match r with
      | none => R (.ok .next) s₁
      | some v => does prog w A env R (letOwnedTupleGo t0 it v) (fun _ s₂ => does prog w A env R (assign t0 env v) (fun _ s₃ => does prog w A env R (tested env ifs0) (fun ok s₄ =>
          if ok = true then does prog w A env R (eval i1 env) (fun x s₅ => does prog w A env R (pyIter x) (fun it1 s₆ =>
            codeAny (model prog w) A (.compStart (dc2 kx vx t0 i0 ifs0 t1 i1 ifs1 scope pos) 1 it1 (.ref D) env) (fun r s' => match r with
              | .ok _ => ∃ m, m < n ∧ I m s'
              | .error _ => False) s₆) s₅) s₄
          else ∃ m, m < n ∧ I m s₄) s₃) s₂) s₁) s)
    (n : Nat) (h : I n s) : codeAny (model prog w) A (.compLoop (dc2 kx vx t0 i0 ifs0 t1 i1 ifs1 scope pos) 0 it (.ref D) env) R s := by
  refine codeAny_loop rfl I (fun n s hI => ?_) n h
  show wpAny _ A ((compTurn (dc2 kx vx t0 i0 ifs0 t1 i1 ifs1 scope pos) 0 it (.ref D) env).onRaise (fun x => do noteFrame x env; theTreesLotGoes x)) _ _ s
  refine wpAny_noted ?_
  rw [turn_out]
  refine wpAny_bind (wpAny_standAt (wpAny_bind (wpAny_mono (turn n s hI) (fun r s₁ h₁ => ?_) fun _ _ z => z)))
  cases r with
  | none => exact wpAny_pure h₁
  | some v =>
    refine wpAny_bind (wpAny_mono h₁ (fun _ s₂ h₂ => wpAny_bind (wpAny_mono h₂ (fun _ s₃ h₃ => wpAny_bind (wpAny_mono h₃ (fun ok s₄ h₄ => ?_) fun _ _ z => z)) fun _ _ z => z)) fun _ _ z => z)
    cases ok with
    | false => exact wpAny_pure ⟨rfl, h₄⟩
    | true =>
      refine wpAny_bind (wpAny_mono h₄ (fun x s₅ h₅ => ?_) fun _ _ z => z)
      refine wpAny_bind (wpAny_standAt (wpAny_bind (wpAny_of_eq (hs x) (wpAny_bind (wpAny_holding (wpAny_mono h₅ (fun it1 s₆ h₆ => ?_) fun _ _ z => z))))))
      refine wpAny_bind (wpAny_runOwn ?_)
      rw [Around.mark_none]
      refine codeAny_mono h₆ fun r s' hr => ?_
      cases r with
      | ok f =>
        first
          | exact wpAny_pure ⟨rfl, hr⟩
          | exact wpAny_bind (wpAny_pure (wpAny_pure ⟨rfl, hr⟩))
      | error e => exact hr.elim
theorem loop_in (I : Nat → Shared → Prop)
    (turn : ∀ n s, I n s → does prog w A env R (pyNext it) (fun r s₁ => match r with
      | none => R (.ok .next) s₁
      | some v => does prog w A env R (letOwnedTupleGo t1 it v) (fun _ s₂ => does prog w A env R (assign t1 env v) (fun _ s₃ => does prog w A env R (tested env ifs1) (fun ok s₄ =>
          if ok = true then does prog w A env R (eval kx env) (fun k s₅ => does prog w A env R (eval vx env) (fun y s₆ => does prog w A env R (dictSet D k y) (fun _ s₇ => ∃ m, m < n ∧ I m s₇) s₆) s₅) s₄
          else ∃ m, m < n ∧ I m s₄) s₃) s₂) s₁) s)
    (n : Nat) (h : I n s) : codeAny (model prog w) A (.compLoop (dc2 kx vx t0 i0 ifs0 t1 i1 ifs1 scope pos) 1 it (.ref D) env) R s := by
  refine codeAny_loop rfl I (fun n s hI => ?_) n h
  show wpAny _ A ((compTurn (dc2 kx vx t0 i0 ifs0 t1 i1 ifs1 scope pos) 1 it (.ref D) env).onRaise (fun x => do noteFrame x env; theTreesLotGoes x)) _ _ s
  refine wpAny_noted ?_
  rw [turn_in]
  refine wpAny_bind (wpAny_standAt (wpAny_bind (wpAny_mono (turn n s hI) (fun r s₁ h₁ => ?_) fun _ _ z => z)))
  cases r with
  | none => exact wpAny_pure h₁
  | some v =>
    refine wpAny_bind (wpAny_mono h₁ (fun _ s₂ h₂ => wpAny_bind (wpAny_mono h₂ (fun _ s₃ h₃ => wpAny_bind (wpAny_mono h₃ (fun ok s₄ h₄ => ?_) fun _ _ z => z)) fun _ _ z => z)) fun _ _ z => z)
    cases ok with
    | false => exact wpAny_pure ⟨rfl, h₄⟩
    | true =>
      refine wpAny_bind (wpAny_bind (wpAny_mono h₄ (fun k s₅ h₅ => wpAny_bind (wpAny_holding (wpAny_mono h₅ (fun y s₆ h₆ => ?_) fun _ _ z => z))) fun _ _ z => z))
      exact wpAny_bind (wpAny_standAt (wpAny_holding (wpAny_mono h₆ (fun _ s₇ h₇ => wpAny_pure ⟨rfl, h₇⟩) fun _ _ z => z)))
/-- the second clause begins -/
theorem start_in (h0 : codeAny (model prog w) A (.compLoop (dc2 kx vx t0 i0 ifs0 t1 i1 ifs1 scope pos) 1 it (.ref D) env) R s)
    (h : wpAny (model prog w) A (pyIter it) (fun it' s' => codeAny (model prog w) A (.compLoop (dc2 kx vx t0 i0 ifs0 t1 i1 ifs1 scope pos) 1 it' (.ref D) env) R s') (lost prog w A env R) s) :
    codeAny (model prog w) A (.compStart (dc2 kx vx t0 i0 ifs0 t1 i1 ifs1 scope pos) 1 it (.ref D) env) R s := by
  refine codeAny_of_tree ?_
  show wpAny _ _ ((compStart (dc2 kx vx t0 i0 ifs0 t1 i1 ifs1 scope pos) 1 it (.ref D) env).onRaise (fun x => do noteFrame x env; standAt theWindowsPlace)) _ _ s
  refine wpAny_notedAt ?_
  unfold compStart
  show wpAny _ _ (ask >>= _) _ _ s
  refine wpAny_bind (wpAny_askSetting (wpAny_ite ?_))
  split
  · first
      | exact wpAny_bind (wpAny_pure (wpAny_pure (And.intro rfl h0)))
      | exact wpAny_pure (And.intro rfl h0)
  · first
      | exact wpAny_bind (wpAny_rule (wpAny_bind (wpAny_standAt (wpAny_bind (wpAny_mono h (fun it' s' z => wpAny_pure (And.intro rfl z)) fun _ _ x => x)))))
      | (refine wpAny_bind (wpAny_rule ?_); show wpAny _ _ (standAt i1.pos >>= _) _ _ s; exact wpAny_bind (wpAny_standAt (wpAny_bind (wpAny_mono h (fun it' s' z => wpAny_pure (And.intro rfl z)) fun _ _ x => x))))
end
section
variable {X : Cx}
/-- what a turn that stores into the dict at D has to find and to leave -/
def sto (D : Addr) (Nx : Hp → Prop) (y z : V) (H : Hp) : Prop := ∃ kvs k, y = kV k ∧ H D = some (.dK kvs) ∧ kvs.length < sizeLine ∧ Nx (upd H D (.dK (putK kvs k z)))
/-- the second clause's turns, from H0 on, to Nx -/
def TurnsIn (J : It) (g : TG) (tt : TT) (tk tv : TE) (vs : List Nat) (σ : L2.St) (D : Addr) (Nx : Hp → Prop) (H0 : Hp) : Prop :=
  ∃ W : Nat → Nat → Hp → Prop, (∃ m, W 0 m H0) ∧ ∀ j k H, W j k H → (J.stop j H ∧ Nx H) ∨ (J.go j H ∧ ∃ N1 : Hp → Prop, (∀ H', N1 H' → ∃ k', k' < k ∧ W (j + 1) k' H') ∧
    ∀ x H', J.yld j H x H' → g x (wipe σ vs) H' fun σ3 H5 => wipe σ3 vs = wipe σ vs ∧ tt σ3 H5 fun b H6 => if b = true then tk σ3 H6 fun y H7 => tv σ3 H7 fun z H8 => sto D N1 y z H8 else N1 H6)
/-- the first clause's turns, from H0 on, to Qd -/
def TurnsOut (J : It) (g : TG) (tt : TT) (wi1 : TI) (g1 : TG) (tt1 : TT) (tk tv : TE) (vs vs1 : List Nat) (σ : L2.St) (D : Addr) (Qd : Hp → Prop) (H0 : Hp) : Prop :=
  ∃ W : Nat → Nat → Hp → Prop, (∃ m, W 0 m H0) ∧ ∀ i m H, W i m H → (J.stop i H ∧ Qd H) ∨ (J.go i H ∧ ∃ Nx : Hp → Prop, (∀ H', Nx H' → ∃ m', m' < m ∧ W (i + 1) m' H') ∧
    ∀ x H', J.yld i H x H' → g x (wipe σ vs) H' fun σ2 H2 => wipe σ2 vs = wipe σ vs ∧ tt σ2 H2 fun b H3 => if b = true then wi1 σ2 H3 fun J1 H4 => TurnsIn J1 g1 tt1 tk tv vs1 σ2 D Nx H4 else Nx H3)
/-- {k: v for t in i if .. for t1 in i1 if ..} -/
def tDc2 (wi : TI) (g : TG) (tt : TT) (wi1 : TI) (g1 : TG) (tt1 : TT) (tk tv : TE) (vs vs1 : List Nat) : TE := fun σ H Q => wi σ H fun J H1 => ∀ D, H1 D = none → TurnsOut J g tt wi1 g1 tt1 tk tv vs vs1 σ D (fun H => Q (.ref D) H) (upd H1 D (.dK []))
theorem pe_dc2 {kx vx tg iter tg1 iter1 : Expr} {ifs ifs1 : List Expr} {scope : Scope} {own : List (PySem.Str × Nat)} {vs1 : List Nat} {pos : Pos} {wi wi1 : TI} {g g1 : TG} {tt tt1 : TT} {tk tv : TE}
    (hc : X.calm = true) (hN : X.N.Nodup) (hi : PI X tg iter wi) (ok : BlkOk X.N X.env.scope scope own) (hv : ∀ i ∈ vs1, i ∈ own.map (·.2))
    (hg : ∀ (s : Shared) (H : Hp) (C : Addr) (cl : List (PySem.Str × Addr)) (fp : List Addr), PG (X.blk s H scope (compEnvC scope cl C X.env) fp) tg g)
    (ht : ∀ (s : Shared) (H : Hp) (C : Addr) (cl : List (PySem.Str × Addr)) (fp : List Addr), PTs (X.blk s H scope (compEnvC scope cl C X.env) fp) ifs tt)
    (hi1 : ∀ (s : Shared) (H : Hp) (C : Addr) (cl : List (PySem.Str × Addr)) (fp : List Addr), PI (X.blk s H scope (compEnvC scope cl C X.env) fp) tg1 iter1 wi1)
    (hg1 : ∀ (s : Shared) (H : Hp) (C : Addr) (cl : List (PySem.Str × Addr)) (fp : List Addr), PG (X.blk s H scope (compEnvC scope cl C X.env) fp) tg1 g1)
    (ht1 : ∀ (s : Shared) (H : Hp) (C : Addr) (cl : List (PySem.Str × Addr)) (fp : List Addr), PTs (X.blk s H scope (compEnvC scope cl C X.env) fp) ifs1 tt1)
    (hk : ∀ (s : Shared) (H : Hp) (C : Addr) (cl : List (PySem.Str × Addr)) (fp : List Addr), PE (X.blk s H scope (compEnvC scope cl C X.env) fp) kx tk)
    (he : ∀ (s : Shared) (H : Hp) (C : Addr) (cl : List (PySem.Str × Addr)) (fp : List Addr), PE (X.blk s H scope (compEnvC scope cl C X.env) fp) vx tv)
    (hs : ∀ x, foldedSetIterable iter X.env x = pure x := by intro _; rfl) (hs1 : ∀ env x, foldedSetIterable iter1 env x = pure x := by intro _ _; rfl) :
    PE X (.DictComp kx vx [⟨tg, iter, ifs, 0⟩, ⟨tg1, iter1, ifs1, 0⟩] scope pos) (tDc2 wi g tt wi1 g1 tt1 tk tv (own.map (·.2)) vs1) := by
  refine ⟨fun pins s σ H Q I h => ?_⟩
  rw [arm_eval_DictComp]
  have known : ∀ y ∈ scope.names, y.2 = .free → ∃ c, X.env.cells.lookup y.1 = some c := fun y hy e =>
    (ok.free y hy e).elim (fun k => I.ok.has _ (.inl k)) fun k => I.ok.has _ (.inr k)
  refine wpAny_comprehension_free rfl hs (closure_ok known) ok.kind (fun y hy e => by rw [ok.uniq y hy, e])
    (thn (hi.run pins s σ H _ I h) fun xv s1 hx => thn hx fun itv s2 ⟨it, fp, tn, J, H2, e, I2, T, st2, f2, q⟩ => ?_)
  subst e
  refine wpAny_newObj_type (newEnv_comp ?_)
  -- the new dict, at the end of the heap
  obtain ⟨D, hD⟩ : ∃ D, s2.heap.objs.size = D := ⟨_, rfl⟩
  rw [hD]
  obtain ⟨W, ⟨m0, w0⟩, turn⟩ := q D (I2.hok.fresh (Nat.le_of_eq hD))
  obtain ⟨H3, hH3⟩ : ∃ H3, upd H2 D (.dK []) = H3 := ⟨_, rfl⟩
  rw [hH3] at w0
  obtain ⟨s3, hs3⟩ : ∃ s3 : Shared, ({ s2 with heap := s2.heap.push { cls := .type "dict", data := .dict #[] } } : Shared) = s3 := ⟨_, rfl⟩
  have grown : ∀ b o, s2.heap.get? b = some o → s3.heap.get? b = some o := fun b o e => by
    rw [← hs3]; exact Heap.get?_push_of_some _ e
  have I3 : Inv X pins σ H3 s3 := by
    rw [← hs3, ← hH3]
    refine I2.laid (t' := s2.toks) (fun b o e => Heap.get?_push_of_some _ e) (Nat.le_of_eq hD) ?_
    rw [← hD]
    exact dk_empty s2.heap I2.big
  have sz3 : s3.heap.objs.size = s2.heap.objs.size + 1 := by
    rw [← hs3]; exact Heap.size_push _ _
  have young : ∀ b ∈ fp, b < s2.heap.objs.size := fun b hb => by
    obtain ⟨o, e, _⟩ := T.obj _ _ st2 b hb
    exact Heap.lt_size e
  have f3 : ∀ b ∈ fp, FpOk X pins H3 b ∧ b < s3.heap.objs.size := fun b hb => by
    have hlt := young b hb
    refine ⟨⟨?_, (f2 b hb).2⟩, by rw [sz3]; exact Nat.lt_succ_of_lt hlt⟩
    rw [← hH3, upd_ne (by rw [← hD]; exact Nat.ne_of_lt hlt)]
    exact (f2 b hb).1
  have st3 : tn 0 s3.heap := T.keep _ _ _ st2 fun b _ o e => grown b o e
  -- the block
  have I4 := block_start I3 ok hN f3
  have pg := hg s3 H3 s3.heap.objs.size (cellsFrom (s3.heap.objs.size + 1) scope.names (cloFrom X.env.cells scope.names [])) fp
  have pt := ht s3 H3 s3.heap.objs.size (cellsFrom (s3.heap.objs.size + 1) scope.names (cloFrom X.env.cells scope.names [])) fp
  have pi1 := hi1 s3 H3 s3.heap.objs.size (cellsFrom (s3.heap.objs.size + 1) scope.names (cloFrom X.env.cells scope.names [])) fp
  have pg1 := hg1 s3 H3 s3.heap.objs.size (cellsFrom (s3.heap.objs.size + 1) scope.names (cloFrom X.env.cells scope.names [])) fp
  have pt1 := ht1 s3 H3 s3.heap.objs.size (cellsFrom (s3.heap.objs.size + 1) scope.names (cloFrom X.env.cells scope.names [])) fp
  have pk := hk s3 H3 s3.heap.objs.size (cellsFrom (s3.heap.objs.size + 1) scope.names (cloFrom X.env.cells scope.names [])) fp
  have pe := he s3 H3 s3.heap.objs.size (cellsFrom (s3.heap.objs.size + 1) scope.names (cloFrom X.env.cells scope.names [])) fp
  have away : ∀ b ∈ fp, H3 b = none := fun b hb => (f3 b hb).1.1
  subst hD
  show codeAny _ _ (.compStart (dc2 kx vx tg iter ifs tg1 iter1 ifs1 scope pos) 0 (.ref it) (.ref s2.heap.objs.size) (compEnvC scope (cellsFrom (({ s2 with heap := s2.heap.push { cls := .type "dict", data := .dict #[] } } : Shared).heap.objs.size + 1) scope.names (cloFrom X.env.cells scope.names [])) ({ s2 with heap := s2.heap.push { cls := .type "dict", data := .dict #[] } } : Shared).heap.objs.size X.env)) (compPost (model X.prog X.w) X.A X.xe none _ (.ref s2.heap.objs.size) ({ s2 with heap := s2.heap.push { cls := .type "dict", data := .dict #[] } } : Shared).heap.objs.size) { ({ s2 with heap := s2.heap.push { cls := .type "dict", data := .dict #[] } } : Shared) with heap := pushCells (({ s2 with heap := s2.heap.push { cls := .type "dict", data := .dict #[] } } : Shared).heap.push { cls := .type "dict", data := .dict #[] }) scope.names }
  rw [hs3]
  generalize s2.heap.objs.size = D at *
  show codeAny _ _ (.compStart _ 0 (.ref it) (.ref D) (compEnvC scope (cellsFrom (s3.heap.objs.size + 1) scope.names (cloFrom X.env.cells scope.names [])) s3.heap.objs.size X.env)) (compPost (model X.prog X.w) X.A X.xe none (EP X pins σ Q) (.ref D) s3.heap.objs.size) { s3 with heap := pushCells (s3.heap.push { cls := .type "dict", data := .dict #[] }) scope.names }
  obtain ⟨ce, hce⟩ : ∃ ce, compEnvC scope (cellsFrom (s3.heap.objs.size + 1) scope.names (cloFrom X.env.cells scope.names [])) s3.heap.objs.size X.env = ce := ⟨_, rfl⟩
  have cL : ce.locals = s3.heap.objs.size := by rw [← hce]; rfl
  rw [hce] at I4 pg pt pi1 pg1 pt1 pk pe ⊢
  have st4 : tn 0 ({ s3 with heap := pushCells (s3.heap.push { cls := .type "dict", data := .dict #[] }) scope.names } : Shared).heap := T.keep _ _ _ st3 fun b _ o e => pushCells_keeps _ _ _ _ (Heap.get?_push_of_some _ e)
  revert I4 st4
  generalize ({ s3 with heap := pushCells (s3.heap.push { cls := .type "dict", data := .dict #[] }) scope.names } : Shared) = s4
  intro I4 st4
  -- the iterator's own objects, as the block sees them
  have own_ok : ∀ {σ' : L2.St} {H' : Hp} {s' : Shared}, Inv (X.blk s3 H3 scope ce fp) [] σ' H' s' → (∀ b ∈ fp, H' b = none) → ∀ b ∈ fp, FpOk (X.blk s3 H3 scope ce fp) [] H' b := fun {σ' H' s'} I' hn b hb =>
    ⟨hn b hb, (I'.ok.exf b hb).1, I'.ok.exfs b hb, .inl hb, fun x c e => (I'.ok.exf b hb).2 x c e, fun p hp => absurd (show p ∈ ([] : List (Addr × Obj)) ++ [] from hp) (by simp)⟩
  have loop : codeAny (model X.prog X.w) X.A (.compLoop (dc2 kx vx tg iter ifs tg1 iter1 ifs1 scope pos) 0 (.ref it) (.ref D) ce) (compPost (model X.prog X.w) X.A X.xe none (EP X pins σ Q) (.ref D) s3.heap.objs.size) s4 := by
    refine loop_out (hs1 ce) (fun n s' => ∃ i H', Inv (X.blk s3 H3 scope ce fp) [] (wipe σ (own.map (·.2))) H' s' ∧ tn i s'.heap ∧ (∀ b ∈ fp, H' b = none) ∧ W i n H') ?_ m0 ⟨0, H3, I4, st4, away, w0⟩
    rintro n s5 ⟨i, H5, I5, st5, n5, w5⟩
    rcases turn i n H5 w5 with ⟨stop, qq⟩ | ⟨go, Nx, hNx, step⟩
    · refine thnF (T.done (X.blk s3 H3 scope ce fp) rfl rfl rfl hc i [] s5 _ H5 (fun _ _ => False) I5 (own_ok I5 n5) st5 stop) fun r s6 ⟨hr, I6⟩ => ?_
      subst hr
      have back : Inv X pins σ H5 s6 := I3.call' (ch := fp) I6.os I6.base I6.hok I6.bare fun b hb => by
        obtain ⟨⟨_, z1, z2, z3, z4, z5⟩, _⟩ := f3 b hb
        exact ⟨z3, z1, z4, z5⟩
      have nC : H5 s3.heap.objs.size = none := cL ▸ (show H5 ce.locals = none from I6.free)
      obtain ⟨m, hn, _⟩ := I6.loc
      have hn' : s6.heap.Ns s3.heap.objs.size m := cL ▸ (show s6.heap.Ns ce.locals m from hn)
      obtain ⟨f0, f1, f2', f3', f4, f5⟩ := I3.fpOk (Nat.le_refl _) nC
      refine ⟨m, hn', fun h'' sb => ?_⟩
      exact ⟨.ref D, H5, back.turned (t' := s6.toks) (fun b o hb e => (sb.2 b hb).trans e) f0 f1 f3' f4 f5, rfl, qq⟩
    · refine thnF (T.item (X.blk s3 H3 scope ce fp) rfl rfl rfl hc i [] s5 _ H5 (fun _ _ => False) I5 (own_ok I5 n5) st5 go) fun r s6 ⟨u, hr, h6⟩ => ?_
      subst hr
      refine thnF h6 fun _ s7 ⟨x, H7, I7, r7, y7, st7, n7⟩ => ?_
      refine thnF (pg.run _ s7 _ H7 x u _ (I7.pinned (own_ok I7 n7) (T.obj _ _ st7)) r7 (step x H7 y7)) fun _ s8 ⟨σ8, H8, I8, hw8, q8⟩ => ?_
      refine thnF (pt.run _ s8 σ8 H8 _ I8 q8) fun b s9 ⟨H9, I9, q9⟩ => ?_
      -- one turn less, whatever the second clause left in its own slots
      have next : ∀ {σ9 : L2.St} {s' : Shared} {H' : Hp}, Inv (X.blk s3 H3 scope ce fp) ([] ++ pinsAt fp s7.heap) σ9 H' s' → σ9.length = σ8.length → (∀ (j : Nat) v, (wipe σ (own.map (·.2)))[j]? = some (some v) → σ9[j]? = some (some v)) → Nx H' →
          ∃ m, m < n ∧ ∃ i H', Inv (X.blk s3 H3 scope ce fp) [] (wipe σ (own.map (·.2))) H' s' ∧ tn i s'.heap ∧ (∀ b ∈ fp, H' b = none) ∧ W i m H' := fun {σ9 s' H'} I' hl hk nx => by
        obtain ⟨m', hm, w'⟩ := hNx H' nx
        have still : ∀ b ∈ fp, ∀ o, s7.heap.get? b = some o → s'.heap.get? b = some o ∧ H' b = none := fun b hb o e => by
          have z := I'.pin (b, o) (List.mem_append_right _ (List.mem_append_right _ (mem_pinsAt hb e)))
          exact ⟨z.1, z.2.1⟩
        have hl' : (wipe σ (own.map (·.2))).length = σ9.length := by rw [hl, ← wipe_length σ8 (own.map (·.2)), hw8]
        refine ⟨m', hm, i + 1, H', (I'.unpinned (pins := [])).weak hl' hk, T.keep _ _ _ st7 fun b hb o e => (still b hb o e).1, fun b hb => ?_, w'⟩
        obtain ⟨o, e, _⟩ := T.obj _ _ st7 b hb
        exact (still b hb o e).2
      have hk8 : ∀ (j : Nat) v, (wipe σ (own.map (·.2)))[j]? = some (some v) → σ8[j]? = some (some v) := fun j v e => (wipe_some (hw8 ▸ e)).1
      cases b with
      | false =>
        simp only [Bool.false_eq_true, if_false] at q9 ⊢
        exact next I9 rfl hk8 q9
      | true =>
        simp only [if_true] at q9 ⊢
        refine thnF (pi1.run _ s9 σ8 H9 _ I9 q9) fun xv s10 hx => thnF hx fun itv s11 ⟨it1, fp1, tn1, J1, H11, e1, I11, T1, st11, f11, W1, ⟨m1, w1⟩, turn1⟩ => ?_
        subst e1
        have own1 : ∀ {H' : Hp}, (∀ b ∈ fp1, H' b = none) → ∀ b ∈ fp1, FpOk (X.blk s3 H3 scope ce fp) ([] ++ pinsAt fp s7.heap) H' b := fun hn b hb => ⟨hn b hb, (f11 b hb).2⟩
        have hk9 : ∀ (j : Nat) v, (wipe σ (own.map (·.2)))[j]? = some (some v) → (wipe σ8 vs1)[j]? = some (some v) := fun j v e => by
          obtain ⟨e1, e2⟩ := wipe_some (hw8 ▸ e)
          rw [wipe_out fun z => e2 (hv j z)]
          exact e1
        have loop1 : codeAny (model X.prog X.w) X.A (.compLoop (dc2 kx vx tg iter ifs tg1 iter1 ifs1 scope pos) 1 (.ref it1) (.ref D) ce)
            (fun r s' => match r with
              | .ok _ => ∃ m, m < n ∧ ∃ i H', Inv (X.blk s3 H3 scope ce fp) [] (wipe σ (own.map (·.2))) H' s' ∧ tn i s'.heap ∧ (∀ b ∈ fp, H' b = none) ∧ W i m H'
              | .error _ => False) s11 := by
          refine loop_in (fun k s' => ∃ j H', Inv (X.blk s3 H3 scope ce fp) ([] ++ pinsAt fp s7.heap) (wipe σ8 vs1) H' s' ∧ tn1 j s'.heap ∧ (∀ b ∈ fp1, H' b = none) ∧ W1 j k H') ?_ m1 ⟨0, H11, I11.weak (wipe_length _ _) (fun j v e => (wipe_some e).1), st11, fun b hb => (f11 b hb).1, w1⟩
          rintro k s12 ⟨j, H12, I12, st12, n12, w12⟩
          rcases turn1 j k H12 w12 with ⟨stop1, nx1⟩ | ⟨go1, Nx1, hNx1, step1⟩
          · refine thnF (T1.done (X.blk s3 H3 scope ce fp) rfl rfl rfl hc j _ s12 (wipe σ8 vs1) H12 (fun _ _ => False) I12 (own1 n12) st12 stop1) fun r s13 ⟨hr, I13⟩ => ?_
            subst hr
            exact next I13 (wipe_length σ8 vs1) hk9 nx1
          · refine thnF (T1.item (X.blk s3 H3 scope ce fp) rfl rfl rfl hc j _ s12 (wipe σ8 vs1) H12 (fun _ _ => False) I12 (own1 n12) st12 go1) fun r s13 ⟨u1, hr, h13⟩ => ?_
            subst hr
            refine thnF h13 fun _ s14 ⟨x1, H14, I14, r14, y14, st14, n14⟩ => ?_
            refine thnF (pg1.run _ s14 (wipe σ8 vs1) H14 x1 u1 _ (I14.pinned (own1 n14) (T1.obj _ _ st14)) r14 (step1 x1 H14 y14)) fun _ s15 ⟨σ15, H15, I15, hw15, q15⟩ => ?_
            refine thnF (pt1.run _ s15 σ15 H15 _ I15 q15) fun b1 s16 ⟨H16, I16, q16⟩ => ?_
            have next1 : ∀ {s' : Shared} {H' : Hp}, Inv (X.blk s3 H3 scope ce fp) (([] ++ pinsAt fp s7.heap) ++ pinsAt fp1 s14.heap) σ15 H' s' → Nx1 H' → ∃ m, m < k ∧ ∃ j H', Inv (X.blk s3 H3 scope ce fp) ([] ++ pinsAt fp s7.heap) (wipe σ8 vs1) H' s' ∧ tn1 j s'.heap ∧ (∀ b ∈ fp1, H' b = none) ∧ W1 j m H' := fun {s' H'} I' nx => by
              obtain ⟨m', hm, w'⟩ := hNx1 H' nx
              have still : ∀ b ∈ fp1, ∀ o, s14.heap.get? b = some o → s'.heap.get? b = some o ∧ H' b = none := fun b hb o e => by
                have z := I'.pin (b, o) (List.mem_append_right _ (List.mem_append_right _ (mem_pinsAt hb e)))
                exact ⟨z.1, z.2.1⟩
              refine ⟨m', hm, j + 1, H', I'.unpinned.weak (by rw [← hw15, wipe_length]) (fun j v e => (wipe_some (hw15 ▸ e)).1), T1.keep _ _ _ st14 fun b hb o e => (still b hb o e).1, fun b hb => ?_, w'⟩
              obtain ⟨o, e, _⟩ := T1.obj _ _ st14 b hb
              exact (still b hb o e).2
            cases b1 with
            | false =>
              simp only [Bool.false_eq_true, if_false] at q16 ⊢
              exact next1 I16 q16
            | true =>
              simp only [if_true] at q16 ⊢
              refine thnF (pk.run _ s16 σ15 H16 _ I16 q16) fun z s17 ⟨yk, H17, I17, r17, q17⟩ => ?_
              refine thnF (pe.run _ s17 σ15 H17 _ I17 q17) fun z2 s18 ⟨yv, H18, I18, r18, kvs, k, ek, hD18, hz18, nx⟩ => ?_
              subst ek
              exact d_dictSet (X := X.blk s3 H3 scope ce fp) I18 hD18 hz18 r17 r18 fun s19 I19 => next1 I19 nx
        exact start_in loop1 (T1.self X.A 0 _ _ _ st11 loop1)
  exact codeAny_compStart_dict loop (T.self X.A 0 _ _ _ st4 loop)
end
/-- the first clause over a tuple that stays -/
theorem out_tup {K : PySem.W.Frag} {a : Addr} {xs : List V} {g : TG} {tt : TT} {wi1 : TI} {g1 : TG} {tt1 : TT} {tk tv : TE} {vs vs1 : List Nat} {σ : L2.St} {H0 : Hp} {D : Addr} {Qd : Hp → Prop} (Pv : Nat → Hp → Prop) (h0 : Pv 0 H0) (hl : ∀ i H, i ≤ xs.length → Pv i H → SqT K H a xs)
    (hs : ∀ i x H, xs[i]? = some x → Pv i H → g x (wipe σ vs) H fun σ2 H2 => wipe σ2 vs = wipe σ vs ∧ tt σ2 H2 fun b H3 => if b = true then wi1 σ2 H3 fun J1 H4 => TurnsIn J1 g1 tt1 tk tv vs1 σ2 D (Pv (i + 1)) H4 else Pv (i + 1) H3) (hd : ∀ H, Pv xs.length H → Qd H) :
    TurnsOut (Itt K a) g tt wi1 g1 tt1 tk tv vs vs1 σ D Qd H0 := by
  refine ⟨fun i m H => m = xs.length - i ∧ i ≤ xs.length ∧ Pv i H, ⟨xs.length, by simp, Nat.zero_le _, h0⟩, ?_⟩
  rintro i m H ⟨rfl, hi, p⟩
  have q := hl i H hi p
  by_cases hlt : i < xs.length
  · refine .inr ⟨⟨xs, xs[i], q, by simp [hlt]⟩, Pv (i + 1), fun H' p' => ⟨xs.length - (i + 1), by omega, rfl, hlt, p'⟩, fun x H' ⟨e, y⟩ => ?_⟩
    subst e
    exact hs i x _ (y xs q) p
  · have e : i = xs.length := by omega
    subst e
    exact .inl ⟨⟨xs, q, Nat.le_refl _⟩, hd H p⟩
/-- the second clause over the numbers lo, lo + 1, .. (n of them) -/
theorem in_range {lo : Int} {n : Nat} {g : TG} {tt : TT} {tk tv : TE} {vs : List Nat} {σ : L2.St} {H0 : Hp} {D : Addr} {Nx : Hp → Prop} (Pv : Nat → Hp → Prop) (h0 : Pv 0 H0)
    (hs : ∀ i H, i < n → Pv i H → g (.int (lo + i)) (wipe σ vs) H fun σ2 H2 => wipe σ2 vs = wipe σ vs ∧ tt σ2 H2 fun b H3 => if b = true then tk σ2 H3 fun y H4 => tv σ2 H4 fun z H5 => sto D (Pv (i + 1)) y z H5 else Pv (i + 1) H3) (hd : ∀ H, Pv n H → Nx H) :
    TurnsIn (Itr lo n) g tt tk tv vs σ D Nx H0 := by
  refine ⟨fun i m H => m = n - i ∧ i ≤ n ∧ Pv i H, ⟨n, by simp, Nat.zero_le _, h0⟩, ?_⟩
  rintro i m H ⟨rfl, hi, p⟩
  by_cases hlt : i < n
  · refine .inr ⟨hlt, Pv (i + 1), fun H' p' => ⟨n - (i + 1), by omega, rfl, hlt, p'⟩, fun x H' ⟨e1, e2⟩ => ?_⟩
    subst e1 e2
    exact hs i H' hlt p
  · have e : i = n := by omega
    subst e
    exact .inl ⟨Nat.le_refl _, hd H p⟩
end Ami

set_option Elab.async false
set_option linter.all false
set_option maxRecDepth 100000
set_option maxHeartbeats 400000
/-! How a list comprehension of two clauses is read. -/
namespace Ami
open PySem PySem.Spec PyProof.Rows L2
/-- what a turn that adds y to the list at D has to find and to leave -/
def app (D : Addr) (Nx : Hp → Prop) (y : V) (H : Hp) : Prop := ∃ acc, H D = some (.lst acc) ∧ acc.length < sizeLine ∧ Nx (upd H D (.lst (acc ++ [y])))
def LIn (J : It) (g : TG) (tt : TT) (te : TE) (vs : List Nat) (σ : L2.St) (D : Addr) (Nx : Hp → Prop) (H0 : Hp) : Prop :=
  ∃ W : Nat → Nat → Hp → Prop, (∃ m, W 0 m H0) ∧ ∀ j k H, W j k H → (J.stop j H ∧ Nx H) ∨ (J.go j H ∧ ∃ N1 : Hp → Prop, (∀ H', N1 H' → ∃ k', k' < k ∧ W (j + 1) k' H') ∧
    ∀ x H', J.yld j H x H' → g x (wipe σ vs) H' fun σ3 H5 => wipe σ3 vs = wipe σ vs ∧ tt σ3 H5 fun b H6 => if b = true then te σ3 H6 (app D N1) else N1 H6)
def LOut (J : It) (g : TG) (tt : TT) (wi1 : TI) (g1 : TG) (tt1 : TT) (te : TE) (vs vs1 : List Nat) (σ : L2.St) (D : Addr) (Qd : Hp → Prop) (H0 : Hp) : Prop :=
  ∃ W : Nat → Nat → Hp → Prop, (∃ m, W 0 m H0) ∧ ∀ i m H, W i m H → (J.stop i H ∧ Qd H) ∨ (J.go i H ∧ ∃ Nx : Hp → Prop, (∀ H', Nx H' → ∃ m', m' < m ∧ W (i + 1) m' H') ∧
    ∀ x H', J.yld i H x H' → g x (wipe σ vs) H' fun σ2 H2 => wipe σ2 vs = wipe σ vs ∧ tt σ2 H2 fun b H3 => if b = true then wi1 σ2 H3 fun J1 H4 => LIn J1 g1 tt1 te vs1 σ2 D Nx H4 else Nx H3)
/-- the reading of pe_lc2, by these words -/
theorem lc2_is {wi : TI} {g : TG} {tt : TT} {wi1 : TI} {g1 : TG} {tt1 : TT} {te : TE} {vs vs1 : List Nat} {σ : L2.St} {H : Hp} {Q : VK}
    (h : wi σ H fun J H1 => ∀ D, H1 D = none → LOut J g tt wi1 g1 tt1 te vs vs1 σ D (fun H => Q (.ref D) H) (upd H1 D (.lst []))) : tLc2 wi g tt wi1 g1 tt1 te vs vs1 σ H Q := h
/-- the first clause over a tuple that stays -/
theorem lout_tup {K : PySem.W.Frag} {a : Addr} {xs : List V} {g : TG} {tt : TT} {wi1 : TI} {g1 : TG} {tt1 : TT} {te : TE} {vs vs1 : List Nat} {σ : L2.St} {H0 : Hp} {D : Addr} {Qd : Hp → Prop} (Pv : Nat → Hp → Prop) (h0 : Pv 0 H0) (hl : ∀ i H, i ≤ xs.length → Pv i H → SqT K H a xs)
    (hs : ∀ i x H, xs[i]? = some x → Pv i H → g x (wipe σ vs) H fun σ2 H2 => wipe σ2 vs = wipe σ vs ∧ tt σ2 H2 fun b H3 => if b = true then wi1 σ2 H3 fun J1 H4 => LIn J1 g1 tt1 te vs1 σ2 D (Pv (i + 1)) H4 else Pv (i + 1) H3) (hd : ∀ H, Pv xs.length H → Qd H) :
    LOut (Itt K a) g tt wi1 g1 tt1 te vs vs1 σ D Qd H0 := by
  refine ⟨fun i m H => m = xs.length - i ∧ i ≤ xs.length ∧ Pv i H, ⟨xs.length, by simp, Nat.zero_le _, h0⟩, ?_⟩
  rintro i m H ⟨rfl, hi, p⟩
  have q := hl i H hi p
  by_cases hlt : i < xs.length
  · refine .inr ⟨⟨xs, xs[i], q, by simp [hlt]⟩, Pv (i + 1), fun H' p' => ⟨xs.length - (i + 1), by omega, rfl, hlt, p'⟩, fun x H' ⟨e, y⟩ => ?_⟩
    subst e
    exact hs i x _ (y xs q) p
  · have e : i = xs.length := by omega
    subst e
    exact .inl ⟨⟨xs, q, Nat.le_refl _⟩, hd H p⟩
/-- the second clause over the numbers lo, lo + 1, .. (n of them) -/
theorem lin_range {lo : Int} {n : Nat} {g : TG} {tt : TT} {te : TE} {vs : List Nat} {σ : L2.St} {H0 : Hp} {D : Addr} {Nx : Hp → Prop} (Pv : Nat → Hp → Prop) (h0 : Pv 0 H0)
    (hs : ∀ i H, i < n → Pv i H → g (.int (lo + i)) (wipe σ vs) H fun σ2 H2 => wipe σ2 vs = wipe σ vs ∧ tt σ2 H2 fun b H3 => if b = true then te σ2 H3 (app D (Pv (i + 1))) else Pv (i + 1) H3) (hd : ∀ H, Pv n H → Nx H) :
    LIn (Itr lo n) g tt te vs σ D Nx H0 := by
  refine ⟨fun i m H => m = n - i ∧ i ≤ n ∧ Pv i H, ⟨n, by simp, Nat.zero_le _, h0⟩, ?_⟩
  rintro i m H ⟨rfl, hi, p⟩
  by_cases hlt : i < n
  · refine .inr ⟨hlt, Pv (i + 1), fun H' p' => ⟨n - (i + 1), by omega, rfl, hlt, p'⟩, fun x H' ⟨e1, e2⟩ => ?_⟩
    subst e1 e2
    exact hs i H' hlt p
  · have e : i = n := by omega
    subst e
    exact .inl ⟨Nat.le_refl _, hd H p⟩
end Ami

set_option Elab.async false
set_option linter.all false
set_option maxRecDepth 100000
set_option maxHeartbeats 2000000
/-! repr of data at any depth, dicts too: of a dict alone one must know that it is not the table of the modules, and a tracked one never is -/
namespace Ami
open PySem PySem.Spec PyProof.Rows L2
section
variable {X : Cx} {pins : List (Addr × Obj)} {σ : L2.St} {H : Hp} {s : Shared}
mutual
theorem Dq.shows (I : Inv X pins σ H s) : ∀ {v : V} {d : PyData} (u : Value), Dq X.K H v d → RelV v u → d.showable = true → d.shown.length ≤ sizeLine → ∃ bs, ReadAtMost s.heap d.depth bs ∧ ReprK X.prog X.w bs s.heap d.depth u d.shown
  | _, _, _, .non, r, _, _ => by cases r; exact ⟨[], (fun _ h => nomatch h), by simp only [PyData.shown]; exact .of_is ReprIs.none _ _ _⟩
  | _, _, _, .bl b, r, _, _ => by cases r; exact ⟨[], (fun _ h => nomatch h), by simp only [PyData.shown]; exact .of_is (ReprIs.bool b) _ _ _⟩
  | _, _, _, .int i, r, hs, _ => by
    obtain ⟨t, rfl⟩ := r
    exact ⟨[], (fun _ h => nomatch h), by simp only [PyData.shown]; exact .of_is (ReprIs.int t (by simpa [PyData.showable] using hs)) _ _ _⟩
  | _, _, _, .str x, r, _, hz => by
    obtain ⟨t, rfl⟩ := r
    exact ⟨[], (fun _ h => nomatch h), by simp only [PyData.shown]; exact .of_is (ReprIs.str x t (by simpa only [PyData.shown] using hz)) _ _ _⟩
  | _, _, _, @Dq.lst _ _ a xs ds hl ha, r, hs, hz => by
    cases r
    obtain ⟨its, rv, ⟨o, n, ho, hc, _, hd⟩, _⟩ := I.list hl
    have hzl : (listText (PyData.shownAll ds)).length ≤ sizeLine := by simpa only [PyData.shown] using hz
    obtain ⟨as, hr⟩ := DqAll.reads I its ha rv
    obtain ⟨bs, hb, hk⟩ := DqAll.shows I its ha rv (by simpa [PyData.showable] using hs) fun t ht => Nat.le_trans (listText_mem_le ht) hzl
    have rd : Reads s.heap (.ref a) (.list ds) _ := .list ho hc hd hr
    have deep : PyData.depthAll ds < (PyData.list ds).depth := by simp only [PyData.depth]; omega
    have out : a ∉ bs := not_mem_of_deeper rd deep hb
    refine ⟨a :: bs, ReadAtMost.cons rd (by simp only [PyData.depth]; omega) hb, ?_⟩
    simp only [PyData.depth, PyData.shown]
    cases its with
    | nil =>
      cases hr
      simp only [PyData.shownAll, listText_nil]
      exact ReprK.listEmpty ho hc hd
    | cons x l => exact ReprK.list ho hc hd out (by simpa using hk.length_eq) fun i y e => hk.item i y (by simpa using e)
  | _, _, _, @Dq.tup _ _ a xs ds hl ha, r, hs, hz => by
    cases r
    obtain ⟨its, rv, ⟨o, ho, hc, n, hd⟩, _⟩ := I.tuple hl
    have hzl : (tupleText (PyData.shownAll ds)).length ≤ sizeLine := by simpa only [PyData.shown] using hz
    obtain ⟨as, hr⟩ := DqAll.reads I its ha rv
    obtain ⟨bs, hb, hk⟩ := DqAll.shows I its ha rv (by simpa [PyData.showable] using hs) fun t ht => Nat.le_trans (tupleText_mem_le ht) hzl
    have rd : Reads s.heap (.ref a) (.tuple ds) _ := .tuple ho hc hd hr
    have deep : PyData.depthAll ds < (PyData.tuple ds).depth := by simp only [PyData.depth]; omega
    have out : a ∉ bs := not_mem_of_deeper rd deep hb
    refine ⟨a :: bs, ReadAtMost.cons rd (by simp only [PyData.depth]; omega) hb, ?_⟩
    simp only [PyData.depth, PyData.shown]
    exact ReprK.tuple ho hc hd out hk
  | _, _, _, @Dq.dct _ _ a kvs ds ha h1 h2, r, hs, hz => by
    cases r
    obtain ⟨_, sys, vs, kv, o, es, ep, ho, hx, hd, _, pr, _⟩ := dk_of I.hok ha
    obtain ⟨p1, p2⟩ := pairs_vals pr kv
    have hzl : (dictText (PyData.shownKv ds)).length ≤ sizeLine := by simpa only [PyData.shown] using hz
    obtain ⟨s1, s2⟩ := PyData.showableKv_split ds (by simpa [PyData.showable] using hs)
    obtain ⟨as, q1⟩ := DqAll.reads I _ h1 p1
    obtain ⟨cs, q2⟩ := DqAll.reads I _ h2 p2
    obtain ⟨b1, hb1, k1⟩ := DqAll.shows I _ h1 p1 s1 fun t ht => by
      obtain ⟨p, hp, hl⟩ := PyData.shownKv_key_le ds t ht
      exact Nat.le_trans hl (Nat.le_trans (dictText_mem_le hp) hzl)
    obtain ⟨b2, hb2, k2⟩ := DqAll.shows I _ h2 p2 s2 fun t ht => by
      obtain ⟨p, hp, hl⟩ := PyData.shownKv_val_le ds t ht
      exact Nat.le_trans hl (Nat.le_trans (dictText_mem_le hp) hzl)
    have rd : Reads s.heap (.ref a) (.dict ds) _ := .dict ho hx.1 hd q1 q2
    have both : ReadAtMost s.heap (PyData.depthKv ds) (b1 ++ b2) := (hb1.mono (PyData.depthAll_keys_le ds)).append (hb2.mono (PyData.depthAll_vals_le ds))
    have deep : PyData.depthKv ds < (PyData.dict ds).depth := by simp only [PyData.depth]; omega
    have out : a ∉ b1 ++ b2 := not_mem_of_deeper rd deep both
    refine ⟨a :: (b1 ++ b2), ReadAtMost.cons rd (by simp only [PyData.depth]; omega) both, ?_⟩
    simp only [PyData.depth, PyData.shown, PyData.shownKv_eq]
    refine ReprK.dict ho hx.1 hd sys out (ReprEntriesK.of_two es.toList _ _ ?_ ?_)
    · exact k1.more_le (fun b hb => List.mem_append_left _ hb) (PyData.depthAll_keys_le ds)
    · exact k2.more_le (fun b hb => List.mem_append_right _ hb) (PyData.depthAll_vals_le ds)
theorem DqAll.shows (I : Inv X pins σ H s) : ∀ {vs : List V} {ds : List PyData} (us : List Value), DqAll X.K H vs ds → Vals vs us → PyData.showableAll ds = true → (∀ t ∈ PyData.shownAll ds, t.length ≤ sizeLine) →
    ∃ bs, ReadAtMost s.heap (PyData.depthAll ds) bs ∧ ReprAllK X.prog X.w bs s.heap (PyData.depthAll ds) us (PyData.shownAll ds)
  | _, _, _, .nil, r, _, _ => by cases r; exact ⟨[], (fun _ h => nomatch h), by simp only [PyData.shownAll]; exact .nil⟩
  | _, _, _, @DqAll.cons _ _ v vs d ds h1 h2, r, hs, hz => by
    cases r with
    | cons r1 r2 =>
      have hs' : d.showable = true ∧ PyData.showableAll ds = true := by simpa [PyData.showableAll] using hs
      have z1 := hz _ (by simp only [PyData.shownAll]; exact List.mem_cons_self ..)
      obtain ⟨b1, hb1, k1⟩ := Dq.shows I _ h1 r1 hs'.1 z1
      obtain ⟨b2, hb2, k2⟩ := DqAll.shows I _ h2 r2 hs'.2 fun t ht => hz t (by simp only [PyData.shownAll]; exact List.mem_cons_of_mem _ ht)
      have l1 : d.depth ≤ PyData.depthAll (d :: ds) := by simp only [PyData.depthAll]; exact Nat.le_max_left _ _
      have l2 : PyData.depthAll ds ≤ PyData.depthAll (d :: ds) := by simp only [PyData.depthAll]; exact Nat.le_max_right _ _
      refine ⟨b1 ++ b2, (hb1.mono l1).append (hb2.mono l2), ?_⟩
      have e : PyData.shownAll (d :: ds) = d.shown :: PyData.shownAll ds := by simp only [PyData.shownAll]
      rw [e]
      exact .cons ((k1.more fun b hb => List.mem_append_left _ hb).level_le l1) (k2.more_le (fun b hb => List.mem_append_right _ hb) l2)
end
end
section
variable {X : Cx}
/-- repr(x), of data at any depth -/
def rReprA (K : PySem.W.Frag) : List V → Hp → VK → Prop := fun xs H Q => ∃ (x : V) (d : PyData), xs = [x] ∧ Dq K H x d ∧ d.showable = true ∧ d.shown.length ≤ sizeLine ∧ d.depth ≤ 50 ∧ Q (.str d.shown) H
theorem cr_reprA (hg : X.A.guards = some []) (hu : X.A.units + 64 < cLine) : CallR X (.builtin "repr") (rReprA X.K) := by
  intro pins s σ H xs us Q I r h
  obtain ⟨x, d, rfl, hd, hs, hz, hdep, q⟩ := h
  obtain ⟨u, rfl, rx⟩ := vals1 r
  have fin : ∀ (h' : Heap) (t : Tok) (tk : Nat), (∀ b o, s.heap.get? b = some o → h'.get? b = some o) → EP X pins σ Q (.str d.shown t) { s with heap := h', toks := tk } :=
    fun h' t tk k => ⟨.str d.shown, H, I.kept (t' := tk) k, ⟨t, rfl⟩, q⟩
  have same : EP X pins σ Q (.str d.shown s.toks) { s with toks := s.toks + 1 } := fin s.heap s.toks (s.toks + 1) fun _ _ e => e
  cases hd with
  | non => cases rx; exact PySem.P.repr_of_none same
  | bl b => cases rx; exact PySem.P.repr_of_bool same
  | int i =>
    obtain ⟨t, rfl⟩ := rx
    exact PySem.P.repr_of_int (of_decide_eq_true hs) same
  | str y =>
    obtain ⟨t, rfl⟩ := rx
    exact PySem.P.repr_of_str same hz
  | @lst a xs ds hl ha =>
    cases rx
    obtain ⟨its, rv, ⟨o, n, ho, hc, _, hd⟩, _⟩ := I.list hl
    have hzl : (listText (PyData.shownAll ds)).length ≤ sizeLine := by simpa only [PyData.shown] using hz
    obtain ⟨as, hr⟩ := DqAll.reads I its ha rv
    obtain ⟨bs, hb, hk⟩ := DqAll.shows I its ha rv (by simpa [PyData.showable] using hs) fun t ht => Nat.le_trans (listText_mem_le ht) hzl
    have out : a ∉ bs := not_mem_of_deeper (.list ho hc hd hr) (by simp only [PyData.depth]; omega) hb
    simp only [PyData.depth] at hdep
    simp only [PyData.shown] at fin
    refine call_repr_slot (by omega) ⟨o, ho, hc⟩ PySem.F.slot_list_repr.toG ?_
    cases its with
    | nil =>
      cases hr
      simp only [PyData.shownAll, listText_nil] at fin
      exact call_list_repr_empty ⟨o, ho, hc⟩ ho hd ⟨_, _, rfl, fin s.heap _ _ fun _ _ e => e⟩
    | cons y l =>
      exact call_list_reprK ho hc hd out (by simpa using hk.length_eq) (fun i y e => hk.item i y (by simpa using e)) hg (fun b _ => Clear.nil b) (by show X.A.units + 1 + _ < _; omega) (fun _ _ e => e) (fun h' t tk k => ⟨_, _, rfl, fin h' t tk k⟩) hzl
  | @tup a xs ds hl ha =>
    cases rx
    obtain ⟨its, rv, ⟨o, ho, hc, n, hd⟩, _⟩ := I.tuple hl
    have hzl : (tupleText (PyData.shownAll ds)).length ≤ sizeLine := by simpa only [PyData.shown] using hz
    obtain ⟨as, hr⟩ := DqAll.reads I its ha rv
    obtain ⟨bs, hb, hk⟩ := DqAll.shows I its ha rv (by simpa [PyData.showable] using hs) fun t ht => Nat.le_trans (tupleText_mem_le ht) hzl
    have out : a ∉ bs := not_mem_of_deeper (.tuple ho hc hd hr) (by simp only [PyData.depth]; omega) hb
    simp only [PyData.depth] at hdep
    simp only [PyData.shown] at fin
    refine call_repr_slot (by omega) ⟨o, ho, hc⟩ PySem.F.slot_tuple_repr ?_
    exact call_tuple_reprK ho hc hd out hk hg (fun b _ => Clear.nil b) (by show X.A.units + 1 + _ < _; omega) (fun _ _ e => e) (fun h' t tk k => ⟨_, _, rfl, fin h' t tk k⟩) hzl
  | @dct a kvs ds ha h1 h2 =>
    cases rx
    have full : Dq X.K H (.ref a) (.dict ds) := .dct ha h1 h2
    obtain ⟨_, sys, vs, kv, o, es, ep, ho, hx, hd, _, pr, _⟩ := dk_of I.hok ha
    obtain ⟨p1, p2⟩ := pairs_vals pr kv
    have hzl : (dictText (PyData.shownKv ds)).length ≤ sizeLine := by simpa only [PyData.shown] using hz
    obtain ⟨s1, s2⟩ := PyData.showableKv_split ds (by simpa [PyData.showable] using hs)
    obtain ⟨as, q1⟩ := DqAll.reads I _ h1 p1
    obtain ⟨cs, q2⟩ := DqAll.reads I _ h2 p2
    obtain ⟨b1, hb1, k1⟩ := DqAll.shows I _ h1 p1 s1 fun t ht => by
      obtain ⟨p, hp, hl⟩ := PyData.shownKv_key_le ds t ht
      exact Nat.le_trans hl (Nat.le_trans (dictText_mem_le hp) hzl)
    obtain ⟨b2, hb2, k2⟩ := DqAll.shows I _ h2 p2 s2 fun t ht => by
      obtain ⟨p, hp, hl⟩ := PyData.shownKv_val_le ds t ht
      exact Nat.le_trans hl (Nat.le_trans (dictText_mem_le hp) hzl)
    have both : ReadAtMost s.heap (PyData.depthKv ds) (b1 ++ b2) := (hb1.mono (PyData.depthAll_keys_le ds)).append (hb2.mono (PyData.depthAll_vals_le ds))
    have out : a ∉ b1 ++ b2 := not_mem_of_deeper (.dict ho hx.1 hd q1 q2) (by simp only [PyData.depth]; omega) both
    simp only [PyData.depth] at hdep
    simp only [PyData.shown, PyData.shownKv_eq] at fin
    refine call_repr_slot (by omega) ⟨o, ho, hx.1⟩ PySem.F.slot_dict_repr ?_
    have e1 := k1.more_le (fun b hb => List.mem_append_left b2 hb) (PyData.depthAll_keys_le ds)
    have e2 := k2.more_le (fun b hb => List.mem_append_right b1 hb) (PyData.depthAll_vals_le ds)
    exact call_dict_reprK ho hx.1 hd sys out (ReprEntriesK.of_two es.toList _ _ e1 e2) hg (fun b _ => Clear.nil b) (by show X.A.units + 1 + _ < _; omega) (fun _ _ e => e) (fun h' t tk k => ⟨_, _, rfl, fin h' t tk k⟩) (by rw [← PyData.shownKv_eq]; exact hzl)
end
end Ami

set_option Elab.async false
set_option linter.all false
set_option maxRecDepth 100000
set_option maxHeartbeats 2000000
/-! sorted of texts, any number of them -/
namespace Ami
open PySem PySem.Spec PyProof.Rows L2
def txtV : Value → Str
  | .str x _ => x
  | _ => Str.empty
def ltV (v u : Value) : Bool := decide ((txtV v).cps.toList < (txtV u).cps.toList)
theorem swo_txt : SrtO.Swo ltV := by
  refine ⟨fun x y h => ?_, fun x y z h1 h2 => ?_⟩
  · have a := of_decide_eq_true (p := (txtV x).cps.toList < (txtV y).cps.toList) h
    exact decide_eq_false (p := (txtV y).cps.toList < (txtV x).cps.toList) (List.lt_asymm a)
  · have a := of_decide_eq_false (p := (txtV y).cps.toList < (txtV x).cps.toList) h1
    have b := of_decide_eq_false (p := (txtV z).cps.toList < (txtV y).cps.toList) h2
    have c : (txtV x).cps.toList ≤ (txtV z).cps.toList := List.le_trans (List.not_lt.mp a) (List.not_lt.mp b)
    exact decide_eq_false (p := (txtV z).cps.toList < (txtV x).cps.toList) (List.not_lt.mpr c)
theorem txt_mem : ∀ {vs : List Value} {ss : List Str}, StrsAre vs ss → ∀ v ∈ vs, ∃ x t, v = Value.str x t
  | _, _, .nil, v, h => absurd h (by simp)
  | _, _, .cons n t r, v, h => by
    rcases List.mem_cons.mp h with e | h
    · exact ⟨n, t, e⟩
    · exact txt_mem r v h
theorem txt_of : ∀ {vs : List Value}, (∀ v ∈ vs, ∃ x t, v = Value.str x t) → StrsAre vs (vs.map txtV)
  | [], _ => .nil
  | v :: vs, h => by
    obtain ⟨x, t, e⟩ := h v List.mem_cons_self
    subst e
    exact .cons x t (txt_of fun u hu => h u (List.mem_cons_of_mem _ hu))
theorem of_txt : ∀ {vs : List Value} {ss : List Str}, StrsAre vs ss → vs.map txtV = ss
  | _, _, .nil => rfl
  | _, _, .cons x t r => congrArg (x :: ·) (of_txt r)
section
variable {prog : Program} {w : World} {A : Around} {E : Value → Shared → Prop} {s : Shared}
theorem txt_cmp {vs : List Value} {ss : List Str} (hS : StrsAre vs ss) : SrtO.Cmp prog w A s oneType' (fun p => p.1 ∈ vs) (SrtO.lt2 ltV) := by
  intro p q hm hm'
  obtain ⟨a, t, e⟩ := txt_mem hS _ hm
  obtain ⟨b, u, e'⟩ := txt_mem hS _ hm'
  show wpAny (model prog w) A (keyLt' oneType' p.1 q.1) (fun r s' => s' = s ∧ r = ltV p.1 q.1) (fun _ _ => False) s
  rw [e, e', keyLt'_oneType]
  exact oneLt_str ⟨rfl, rfl⟩
theorem txt_sortable {a : Addr} {vs : List Value} {ss : List Str} (hS : StrsAre vs ss) (h2 : 2 ≤ vs.length) : SrtO.SortableO prog w A s a vs ltV := by
  intro h' _
  refine ⟨oneType', fun Q E hq => ?_, txt_cmp hS⟩
  match vs, hS, h2 with
  | v1 :: v2 :: rest, hS, _ =>
    rw [keyKind_strs hS]
    exact wpAny_pure hq
  | [], _, h => exact absurd h (by decide)
  | [v], _, h => exact absurd h (by simp)
end
/-- ascending, equal ones beside one another -/
def Up (ss : List Str) : Prop := ss.Pairwise fun a b => ¬ b.cps.toList < a.cps.toList
theorem txt_out {vs out : List Value} {ss : List Str} (hS : StrsAre vs ss) (hs : SrtO.Srtd ltV out) (hb : SrtO.Stb ltV out vs) : StrsAre out (out.map txtV) ∧ (out.map txtV).Perm ss ∧ Up (out.map txtV) := by
  refine ⟨txt_of fun v hv => txt_mem hS v (hb.perm.mem_iff.mp hv), ?_, ?_⟩
  · have q := hb.perm.map txtV
    rw [of_txt hS] at q
    exact q
  · exact List.pairwise_map.mpr (hs.imp fun {x y} h => of_decide_eq_false (p := (txtV y).cps.toList < (txtV x).cps.toList) h)
/-- texts that ascend are told by their members and how often each is there -/
theorem up_uniq : ∀ {xs ys : List Str}, Up xs → Up ys → xs.Perm ys → xs = ys
  | [], ys, _, _, p => (List.nil_perm.mp p).symm
  | x :: xs, [], _, _, p => nomatch List.perm_nil.mp p
  | x :: xs, y :: ys, hx, hy, p => by
    obtain ⟨x1, x2⟩ := List.pairwise_cons.mp hx
    obtain ⟨y1, y2⟩ := List.pairwise_cons.mp hy
    have e : x = y := by
      have mx : x ∈ y :: ys := p.mem_iff.mp List.mem_cons_self
      have my : y ∈ x :: xs := p.mem_iff.mpr List.mem_cons_self
      rcases List.mem_cons.mp mx with h | h
      · exact h
      · rcases List.mem_cons.mp my with h' | h'
        · exact h'.symm
        · have a := x1 y h'
          have b := y1 x h
          have c : x.cps.toList = y.cps.toList := List.le_antisymm (List.not_lt.mp a) (List.not_lt.mp b)
          obtain ⟨⟨lx⟩⟩ := x
          obtain ⟨⟨ly⟩⟩ := y
          exact congrArg (fun l => (⟨⟨l⟩⟩ : Str)) c
    subst e
    rw [up_uniq x2 y2 (List.Perm.cons_inv p)]
section
variable {X : Cx}
/-- sorted(xs), texts, any number of them -/
def rSortedT (K : PySem.W.Frag) : List V → Hp → VK → Prop := fun vs H Q => ∃ (a : Addr) (ss : List Str), vs = [V.ref a] ∧ SqL K H a (ss.map V.str) ∧
  ∀ (ys : List Str) (p : Addr), ys.Perm ss → Up ys → H p = none → Q (.ref p) (upd H p (.lst (ys.map V.str)))
theorem strs_of : ∀ {ss : List Str} {us : List Value}, Vals (ss.map V.str) us → StrsAre us ss
  | [], _, .nil => .nil
  | x :: ss, u :: us, .cons r t => by
    obtain ⟨k, e⟩ := r
    subst e
    exact .cons x k (strs_of t)
theorem cr_sortedT : CallR X (.builtin "sorted") (rSortedT X.K) := by
  intro pins s σ H vs us Q I r h
  obtain ⟨a, ss, rfl, hs, q⟩ := h
  obtain ⟨its, rv, hl, hz⟩ := I.list hs
  rw [Vals.ref1 r]
  have hS := strs_of rv
  refine SrtO.sorted_ord swo_txt hl.isList (by rw [← rv.length]; exact hz) (fun h2 h₁ a' _ _ => txt_sortable hS h2) fun out h1 h2 => ?_
  obtain ⟨k1, k2, k3⟩ := txt_out hS h1 h2
  obtain ⟨ep, he'⟩ := PyProof.Rows.sortedAll_at s.heap its out.toArray
  have hlen : ((out.map txtV).map V.str).length ≤ sizeLine := by
    rw [List.length_map, k2.length_eq]
    rw [List.length_map] at hz
    exact hz
  have J : Inv X pins σ (upd H (s.heap.objs.size + 1) (.lst ((out.map txtV).map V.str))) _ := I.laid (t' := s.toks) (fun _ _ => PyProof.Rows.sortedAll_old) (Nat.le_succ _) ⟨hlen, out, ep, vals_of_strs k1, he'⟩
  exact ⟨.ref _, _, J, rfl, q _ _ k2 k3 (I.hok.fresh (Nat.le_succ _))⟩
end
end Ami

set_option Elab.async false
set_option linter.all false
set_option maxRecDepth 100000
set_option maxHeartbeats 2000000
/-! A set of texts by a comprehension, and sorted of it, however many there are. -/
namespace Ami
open PySem PySem.Spec PyProof.Rows L2
/-- one more text in a row without doubles -/
def ins (x : Str) (ss : List Str) : List Str := if x ∈ ss then ss else x :: ss
theorem mem_ins {x y : Str} {ss : List Str} : y ∈ ins x ss ↔ y ∈ ss ∨ y = x := by
  unfold ins
  by_cases h : x ∈ ss
  · rw [if_pos h]; exact ⟨.inl, fun z => z.elim id fun e => e ▸ h⟩
  · rw [if_neg h, List.mem_cons]; exact Or.comm
theorem ins_nodup {x : Str} {ss : List Str} (n : ss.Nodup) : (ins x ss).Nodup := by
  unfold ins
  by_cases h : x ∈ ss
  · rw [if_pos h]; exact n
  · rw [if_neg h]; exact List.nodup_cons.mpr ⟨h, n⟩
theorem ins_len {x : Str} {ss : List Str} : (ins x ss).length ≤ ss.length + 1 := by
  unfold ins
  by_cases h : x ∈ ss
  · rw [if_pos h]; omega
  · rw [if_neg h, List.length_cons]; omega
theorem inr_mem {x : Str} {ss : List Str} : (Sum.inr x : Key) ∈ ss.map Sum.inr ↔ x ∈ ss := by
  rw [List.mem_map]
  exact ⟨fun ⟨y, h, e⟩ => by cases e; exact h, fun h => ⟨x, h, rfl⟩⟩
section
variable {P : Program} {w : World} {A : Around} {E : Value → Shared → Prop} {s : Shared} {a : Addr}
theorem add_key {l : List Key} {k : Key} {v : Value} {Q : Value → Shared → Prop} (R : SetW w s.heap a l) (hk : keyIs k v = true) (room : l.length + 1 < scanBound)
    (hQ : ∀ h' l', Heap.SameBut a s.heap h' → SetW w h' a l' → (k ∈ l → l' = l) → (k ∉ l → l' = k :: l) → Q .none { s with heap := h', toks := s.toks + 1 }) :
    wpAny (model P w) A (call (.builtin "set.add") [.ref a, v]) Q E s := by
  have ty : s.TypeIs (.ref a) "set" := by
    obtain ⟨o, es, ep, tt, ho, hx, _⟩ := R
    exact ⟨o, ho, hx.1⟩
  refine wpAny_call_entry F.slot_set_add ty F.entry_set_add ?_ (F.args_set_add_2 _ _)
  unfold Builtin.«set.add» Builtin.Frozenset.oneOther
  simp only [List.isEmpty_nil, bind_assoc]
  unfold Builtin.Frozenset.addrOf setAdd
  refine wpAny_bind (wpAny_pure ?_)
  try dsimp only
  refine wpAny_bind (wpAny_pure ?_)
  try dsimp only
  refine wpAny_bind ?_
  refine wpAny_holding ?_
  refine wpAny_bind ((mixKind P w).pyHash (k := k) hk ?_)
  refine add_w (s := { s with toks := s.toks + 1 }) R hk room fun b h' l' sb R' q1 q2 => ?_
  show wpAny _ _ (ret Value.none) _ _ _
  exact wpAny_pure ⟨_, rfl, hQ h' l' sb R' q1 q2⟩
theorem add_txt {ss : List Str} {x : Str} {t : Tok} {Q : Value → Shared → Prop} (R : SetW w s.heap a (ss.map Sum.inr)) (room : ss.length + 1 < scanBound)
    (hQ : ∀ h', Heap.SameBut a s.heap h' → SetW w h' a ((ins x ss).map Sum.inr) → Q .none { s with heap := h', toks := s.toks + 1 }) :
    wpAny (model P w) A (call (.builtin "set.add") [.ref a, .str x t]) Q E s := by
  refine add_key (k := .inr x) R (beq_self_eq_true x) (by rw [List.length_map]; exact room) fun h' l' sb R' q1 q2 => hQ h' sb ?_
  have e : l' = (ins x ss).map Sum.inr := by
    unfold ins
    by_cases h : x ∈ ss
    · rw [if_pos h]; exact q1 (inr_mem.mpr h)
    · rw [if_neg h]; exact q2 fun z => h (inr_mem.mp z)
  exact e ▸ R'
end
section
variable {X : Cx}
theorem addT_ok {pins : List (Addr × Obj)} {σ : L2.St} {H : Hp} {s : Shared} {E : Value → Shared → Prop} {D : Addr} {ss : List Str} {x : Str} {t : Tok} {Q : Value → Shared → Prop} (I : Inv X pins σ H s) (hD : H D = some (SW X.w D (ss.map Sum.inr))) (room : ss.length + 1 < scanBound)
    (h : ∀ s', Inv X pins σ (upd H D (SW X.w D ((ins x ss).map Sum.inr))) s' → Q .none s') : wpAny (model X.prog X.w) X.A (call (.builtin "set.add") [.ref D, .str x t]) Q E s := by
  refine add_txt (sw_get I hD) room fun h' sb new => h _ ?_
  obtain ⟨o, es, ep, tt, ho, _⟩ := id new
  exact I.write (e := D) (t' := s.toks + 1) (by rw [hD]; trivial) (.inl rfl) (fun b u hb hu => (sb.2 b hb).trans hu) ⟨o, ho⟩ (sw_new new)
end
section
variable {P : Program} {w : World} {A : Around} {E : Value → Shared → Prop} {s : Shared} {a : Addr}
/-- the texts that keys stand for -/
def txtK : Key → Str
  | .inr x => x
  | .inl _ => Str.empty
theorem txtK_inr (l : List Str) : (l.map (Sum.inr : Str → Key)).map txtK = l := by
  rw [List.map_map]
  conv => rhs; rw [← List.map_id l]
  exact List.map_congr_left fun _ _ => rfl
theorem sorted_wT {ss : List Str} {Q : Value → Shared → Prop} (R : SetW w s.heap a (ss.map Sum.inr)) (hh : A.handled = none)
    (hQ : ∀ s' p (out : List Value) (c : Nat) (ys : List Str), (∀ b o, s.heap.get? b = some o → s'.heap.get? b = some o) → s'.gens = s.gens → s'.os = s.os → s.heap.objs.size ≤ p →
      s'.heap.get? p = some (seqObj "list" out.toArray c) → StrsAre out ys → ys.Perm ss → Up ys → ys.length ≤ sizeLine → Q (.ref p) s') :
    wpAny (model P w) A (call (.builtin "sorted") [.ref a]) Q E s := by
  obtain ⟨o, es, ep, t, ho, hx, hd, g, nd, m, hb, hf, hr, hl⟩ := R
  have hes : ss.length = es.size := by
    have := m.length_eq
    rw [List.length_map, List.length_map, Array.length_toList] at this
    exact this
  have hb' : ss.length ≤ sizeLine := by rw [hes]; exact Nat.le_trans (Nat.le_of_lt hb) (by decide)
  refine Calls.call_function_entry kind_sorted plain_sorted entry_sorted (args_sorted1 _) ?_
  unfold Builtin.«sorted»
  refine wpAny_bind (m := checkCount "sorted" 1 1 _) (wpAny_pure ?_)
  refine wpAny_bind (collect_set (A := A.in1) hh ⟨o, ho, hx.1, hd⟩ hf hb hr hl fun s1 vs k1 hz g1 o1 pm => ?_)
  have all : ∀ v ∈ vs, keyIs (kOf v) v = true := fun v hv => by
    obtain ⟨e, he, q⟩ := List.mem_map.mp (pm.mem_iff.mp hv)
    rw [← q]
    exact (g e he).1
  have pk : (vs.map kOf).Perm (ss.map Sum.inr) := by
    have q := pm.map kOf
    rw [List.map_map] at q
    exact q.trans m.symm
  have pt : ((vs.map kOf).map txtK).Perm ss := by
    have q := pk.map txtK
    rw [txtK_inr] at q
    exact q
  have et : vs.map kOf = ((vs.map kOf).map txtK).map Sum.inr := by
    rw [List.map_map]
    conv => lhs; rw [← List.map_id (vs.map kOf)]
    refine List.map_congr_left fun k hk => ?_
    obtain ⟨x, _, e⟩ := List.mem_map.mp (pk.mem_iff.mp hk)
    rw [← e]; rfl
  have hS : StrsAre vs ((vs.map kOf).map txtK) := strs_of_keys et all
  have hvl : vs.length ≤ sizeLine := by
    have := pk.length_eq
    rw [List.length_map, List.length_map] at this
    rw [this]; exact hb'
  refine wpAny_bind (wpAny_newList ?_ hvl)
  have hoL : (s1.heap.push (seqObj "list" vs.toArray 0)).get? s1.heap.objs.size = some (seqObj "list" vs.toArray 0) := Heap.get?_push_size _ rfl
  refine wpAny_bind (wpAny_holding (wpAny_call_entry slot_list_sort ⟨_, hoL, rfl⟩ entry_list_sort
    (SrtO.list_sort_ord swo_txt hoL hvl (fun h2 => txt_sortable hS h2) fun out hs hb2 => ⟨_, rfl, ?_⟩) (args_list_sort _)))
  obtain ⟨q1, q2, q3⟩ := txt_out hS hs hb2
  obtain ⟨c, hc⟩ := sortedHeap_at (vs := vs) (out := out.toArray) hoL
  refine wpAny_pure ⟨_, rfl, hQ _ s1.heap.objs.size out c (out.map txtV) (fun b u e => ?_) g1 o1 hz hc q1 (q2.trans pt) q3 ?_⟩
  · have q := k1 b u e
    have hlt := Heap.lt_size q
    show (sortedHeap (s1.heap.push (seqObj "list" vs.toArray 0)) s1.heap.objs.size vs out.toArray).get? b = some u
    rw [sortedHeap_old (Nat.ne_of_lt hlt) (by rw [Heap.size_push]; exact Nat.lt_succ_of_lt hlt)]
    exact Heap.get?_push_of_some _ q
  · rw [(q2.trans pt).length_eq]; exact hb'
end
section
variable {X : Cx}
/-- sorted of a set of texts, any number of them -/
theorem cr_sortedWT (hc : X.calm = true) : CallR X (.builtin "sorted") (fun vs H Q => ∃ (a : Addr) (ss : List Str), vs = [.ref a] ∧ H a = some (SW X.w a (ss.map Sum.inr)) ∧
    ∀ ys p, ys.Perm ss → Up ys → H p = none → Q (.ref p) (upd H p (.lst (ys.map V.str)))) := by
  intro pins s σ H vs us Q I r h
  obtain ⟨a, ss, rfl, ha, q⟩ := h
  rw [Vals.ref1 r]
  refine sorted_wT (sw_get I ha) (I.ok.hd hc) fun s' p out c ys k g o hp hg hs hpm hso hlen => ?_
  have hn : H p = none := I.hok.fresh hp
  have J : Inv X pins σ (upd H p (.lst (ys.map V.str))) { s with heap := s'.heap, gens := s'.gens, drawn := s'.drawn, toks := s'.toks } :=
    I.call (ch := []) (Un.laid k hp hn) (I.hok.laid k hp ⟨by rw [List.length_map]; exact hlen, out, c, vals_of_strs hs, hg⟩) (by rw [g]; exact I.bare) (fun _ z => nomatch z)
  have e : s' = { s with heap := s'.heap, gens := s'.gens, drawn := s'.drawn, toks := s'.toks } := by
    cases s'
    cases s
    cases o
    rfl
  rw [e]
  exact ⟨.ref p, _, J, rfl, q ys p hpm hso hn⟩
end
end Ami

set_option Elab.async false
set_option linter.all false
set_option maxRecDepth 100000
set_option maxHeartbeats 400000
/-! The set of the texts that a comprehension gives. -/
namespace Ami
open PySem PySem.Spec PyProof.Rows L2 PpSet
section
variable {X : Cx}
/-- what a turn that adds the text y to the set at D has to find and to leave -/
def gain (w : World) (D : Addr) (Nx : Hp → Prop) : V → Hp → Prop := fun y H => ∃ (x : Str) (ss : List Str), y = .str x ∧ H D = some (SW w D (ss.map Sum.inr)) ∧ ss.length + 1 < scanBound ∧ Nx (upd H D (SW w D ((ins x ss).map Sum.inr)))
/-- the turns of a comprehension into a set of texts at D -/
def Turns (w : World) (J : It) (g : TG) (tt : TT) (te : TE) (vs : List Nat) (σ : L2.St) (D : Addr) (Qd : Hp → Prop) (H0 : Hp) : Prop :=
  ∃ W : Nat → Nat → Hp → Prop, (∃ m, W 0 m H0) ∧ ∀ i m H, W i m H →
    (J.stop i H ∧ Qd H) ∨ (J.go i H ∧ ∃ Nx : Hp → Prop, (∀ H', Nx H' → ∃ m', m' < m ∧ W (i + 1) m' H') ∧ ∀ x H', J.yld i H x H' → g x (wipe σ vs) H' fun σ2 H2 => wipe σ2 vs = wipe σ vs ∧ tt σ2 H2 fun b H3 =>
      if b = true then te σ2 H3 (gain w D Nx) else Nx H3)
/-- {text for target in iter if ..} -/
def tSt (w : World) (wi : TI) (g : TG) (tt : TT) (te : TE) (vs : List Nat) : TE := fun σ H Q => wi σ H fun J H1 => ∀ D, H1 D = none → Turns w J g tt te vs σ D (fun H => Q (.ref D) H) (upd H1 D (SW w D []))
theorem pe_st {elt tg iter : Expr} {ifs : List Expr} {scope : Scope} {own : List (PySem.Str × Nat)} {pos : Pos} {wi : TI} {g : TG} {tt : TT} {te : TE} (hc : X.calm = true) (hN : X.N.Nodup) (hi : PI X tg iter wi) (ok : BlkOk X.N X.env.scope scope own)
    (hg : ∀ (s : Shared) (H : Hp) (C : Addr) (cl : List (PySem.Str × Addr)) (fp : List Addr), PG (X.blk s H scope (compEnvC scope cl C X.env) fp) tg g)
    (ht : ∀ (s : Shared) (H : Hp) (C : Addr) (cl : List (PySem.Str × Addr)) (fp : List Addr), PTs (X.blk s H scope (compEnvC scope cl C X.env) fp) ifs tt)
    (he : ∀ (s : Shared) (H : Hp) (C : Addr) (cl : List (PySem.Str × Addr)) (fp : List Addr), PE (X.blk s H scope (compEnvC scope cl C X.env) fp) elt te)
    (hs : ∀ x, foldedSetIterable iter X.env x = pure x := by intro _; rfl) : PE X (.SetComp elt [⟨tg, iter, ifs, 0⟩] scope pos) (tSt X.w wi g tt te (own.map (·.2))) := by
  refine ⟨fun pins s σ H Q I h => ?_⟩
  rw [eval_SetComp]
  have known : ∀ y ∈ scope.names, y.2 = .free → ∃ c, X.env.cells.lookup y.1 = some c := fun y hy e =>
    (ok.free y hy e).elim (fun k => I.ok.has _ (.inl k)) fun k => I.ok.has _ (.inr k)
  refine wpAny_comprehension_free rfl hs (closure_ok known) ok.kind (fun y hy e => by rw [ok.uniq y hy, e])
    (thn (hi.run pins s σ H _ I h) fun xv s1 hx => thn hx fun itv s2 ⟨it, fp, tn, J, H2, e, I2, T, st2, f2, q⟩ => ?_)
  subst e
  refine newSet_ok (newEnv_comp ?_)
  -- the new set, at the end of the heap
  obtain ⟨D, hD⟩ : ∃ D, s2.heap.objs.size = D := ⟨_, rfl⟩
  rw [hD]
  obtain ⟨W, ⟨m0, w0⟩, turn⟩ := q D (I2.hok.fresh (Nat.le_of_eq hD))
  obtain ⟨H3, hH3⟩ : ∃ H3, upd H2 D (SW X.w D []) = H3 := ⟨_, rfl⟩
  rw [hH3] at w0
  obtain ⟨s3, hs3⟩ : ∃ s3 : Shared, ({ s2 with heap := s2.heap.push { cls := .type "set", dict := none, data := .set #[] 0 (.fresh 0 0 (!X.w.params.followText "set-order")) } } : Shared) = s3 := ⟨_, rfl⟩
  have led : X.w.params.followText "set-order" = true ∨ (!X.w.params.followText "set-order") = true := by
    cases X.w.params.followText "set-order"
    · exact .inr rfl
    · exact .inl rfl
  have grown : ∀ b o, s2.heap.get? b = some o → s3.heap.get? b = some o := fun b o e => by
    rw [← hs3]; exact Heap.get?_push_of_some _ e
  have I3 : Inv X pins σ H3 s3 := by
    rw [← hs3, ← hH3]
    refine I2.laid (t' := s2.toks) (fun b o e => Heap.get?_push_of_some _ e) (Nat.le_of_eq hD) ?_
    rw [← hD]
    exact sw_new (setW_fresh X.w _ led)
  have sz3 : s3.heap.objs.size = s2.heap.objs.size + 1 := by
    rw [← hs3]; exact Heap.size_push _ _
  have young : ∀ b ∈ fp, b < s2.heap.objs.size := fun b hb => by
    obtain ⟨o, e, _⟩ := T.obj _ _ st2 b hb
    exact Heap.lt_size e
  have f3 : ∀ b ∈ fp, FpOk X pins H3 b ∧ b < s3.heap.objs.size := fun b hb => by
    have hlt := young b hb
    refine ⟨⟨?_, (f2 b hb).2⟩, by rw [sz3]; exact Nat.lt_succ_of_lt hlt⟩
    rw [← hH3, upd_ne (by rw [← hD]; exact Nat.ne_of_lt hlt)]
    exact (f2 b hb).1
  have st3 : tn 0 s3.heap := T.keep _ _ _ st2 fun b _ o e => grown b o e
  -- the block
  have I4 := block_start I3 ok hN f3
  have pg := hg s3 H3 s3.heap.objs.size (cellsFrom (s3.heap.objs.size + 1) scope.names (cloFrom X.env.cells scope.names [])) fp
  have pt := ht s3 H3 s3.heap.objs.size (cellsFrom (s3.heap.objs.size + 1) scope.names (cloFrom X.env.cells scope.names [])) fp
  have pe := he s3 H3 s3.heap.objs.size (cellsFrom (s3.heap.objs.size + 1) scope.names (cloFrom X.env.cells scope.names [])) fp
  have away : ∀ b ∈ fp, H3 b = none := fun b hb => (f3 b hb).1.1
  subst hD
  show codeAny _ _ (.compStart (.SetComp elt [⟨tg, iter, ifs, 0⟩] scope pos) 0 (.ref it) (.ref s2.heap.objs.size) (compEnvC scope (cellsFrom (({ s2 with heap := s2.heap.push { cls := .type "set", dict := none, data := .set #[] 0 (.fresh 0 0 (!X.w.params.followText "set-order")) } } : Shared).heap.objs.size + 1) scope.names (cloFrom X.env.cells scope.names [])) ({ s2 with heap := s2.heap.push { cls := .type "set", dict := none, data := .set #[] 0 (.fresh 0 0 (!X.w.params.followText "set-order")) } } : Shared).heap.objs.size X.env)) (compPost (model X.prog X.w) X.A X.xe none _ (.ref s2.heap.objs.size) ({ s2 with heap := s2.heap.push { cls := .type "set", dict := none, data := .set #[] 0 (.fresh 0 0 (!X.w.params.followText "set-order")) } } : Shared).heap.objs.size) { ({ s2 with heap := s2.heap.push { cls := .type "set", dict := none, data := .set #[] 0 (.fresh 0 0 (!X.w.params.followText "set-order")) } } : Shared) with heap := pushCells (({ s2 with heap := s2.heap.push { cls := .type "set", dict := none, data := .set #[] 0 (.fresh 0 0 (!X.w.params.followText "set-order")) } } : Shared).heap.push { cls := .type "dict", data := .dict #[] }) scope.names }
  rw [hs3]
  generalize s2.heap.objs.size = D at *
  show codeAny _ _ (.compStart _ 0 (.ref it) (.ref D) (compEnvC scope (cellsFrom (s3.heap.objs.size + 1) scope.names (cloFrom X.env.cells scope.names [])) s3.heap.objs.size X.env)) (compPost (model X.prog X.w) X.A X.xe none (EP X pins σ Q) (.ref D) s3.heap.objs.size) { s3 with heap := pushCells (s3.heap.push { cls := .type "dict", data := .dict #[] }) scope.names }
  obtain ⟨ce, hce⟩ : ∃ ce, compEnvC scope (cellsFrom (s3.heap.objs.size + 1) scope.names (cloFrom X.env.cells scope.names [])) s3.heap.objs.size X.env = ce := ⟨_, rfl⟩
  have cL : ce.locals = s3.heap.objs.size := by rw [← hce]; rfl
  rw [hce] at I4 pg pt pe ⊢
  have st4 : tn 0 ({ s3 with heap := pushCells (s3.heap.push { cls := .type "dict", data := .dict #[] }) scope.names } : Shared).heap := T.keep _ _ _ st3 fun b _ o e => pushCells_keeps _ _ _ _ (Heap.get?_push_of_some _ e)
  revert I4 st4
  generalize ({ s3 with heap := pushCells (s3.heap.push { cls := .type "dict", data := .dict #[] }) scope.names } : Shared) = s4
  intro I4 st4
  -- the iterator's own objects, as the block sees them
  have own_ok : ∀ {σ' : L2.St} {H' : Hp} {s' : Shared}, Inv (X.blk s3 H3 scope ce fp) [] σ' H' s' → (∀ b ∈ fp, H' b = none) → ∀ b ∈ fp, FpOk (X.blk s3 H3 scope ce fp) [] H' b := fun {σ' H' s'} I' hn b hb =>
    ⟨hn b hb, (I'.ok.exf b hb).1, I'.ok.exfs b hb, .inl hb, fun x c e => (I'.ok.exf b hb).2 x c e, fun p hp => absurd (show p ∈ ([] : List (Addr × Obj)) ++ [] from hp) (by simp)⟩
  have loop : codeAny (model X.prog X.w) X.A (.compLoop (.SetComp elt [⟨tg, iter, ifs, 0⟩] scope pos) 0 (.ref it) (.ref D) ce) (compPost (model X.prog X.w) X.A X.xe none (EP X pins σ Q) (.ref D) s3.heap.objs.size) s4 := by
    refine compLoopS_any (fun n s' => ∃ i H', Inv (X.blk s3 H3 scope ce fp) [] (wipe σ (own.map (·.2))) H' s' ∧ tn i s'.heap ∧ (∀ b ∈ fp, H' b = none) ∧ W i n H') ?_ m0 ⟨0, H3, I4, st4, away, w0⟩
    rintro n s5 ⟨i, H5, I5, st5, n5, w5⟩
    rcases turn i n H5 w5 with ⟨stop, qq⟩ | ⟨go, Nx, hNx, step⟩
    · refine thnF (T.done (X.blk s3 H3 scope ce fp) rfl rfl rfl hc i [] s5 _ H5 (fun _ _ => False) I5 (own_ok I5 n5) st5 stop) fun r s6 ⟨hr, I6⟩ => ?_
      subst hr
      have back : Inv X pins σ H5 s6 := I3.call' (ch := fp) I6.os I6.base I6.hok I6.bare fun b hb => by
        obtain ⟨⟨_, z1, z2, z3, z4, z5⟩, _⟩ := f3 b hb
        exact ⟨z3, z1, z4, z5⟩
      have nC : H5 s3.heap.objs.size = none := cL ▸ (show H5 ce.locals = none from I6.free)
      obtain ⟨m, hn, _⟩ := I6.loc
      have hn' : s6.heap.Ns s3.heap.objs.size m := cL ▸ (show s6.heap.Ns ce.locals m from hn)
      obtain ⟨f0, f1, f2', f3', f4, f5⟩ := I3.fpOk (Nat.le_refl _) nC
      refine ⟨m, hn', fun h'' sb => ?_⟩
      exact ⟨.ref D, H5, back.turned (t' := s6.toks) (fun b o hb e => (sb.2 b hb).trans e) f0 f1 f3' f4 f5, rfl, qq⟩
    · refine thnF (T.item (X.blk s3 H3 scope ce fp) rfl rfl rfl hc i [] s5 _ H5 (fun _ _ => False) I5 (own_ok I5 n5) st5 go) fun r s6 ⟨u, hr, h6⟩ => ?_
      subst hr
      refine thnF h6 fun _ s7 ⟨x, H7, I7, r7, y7, st7, n7⟩ => ?_
      refine thnF (pg.run _ s7 _ H7 x u _ (I7.pinned (own_ok I7 n7) (T.obj _ _ st7)) r7 (step x H7 y7)) fun _ s8 ⟨σ8, H8, I8, hw8, q8⟩ => ?_
      refine thnF (pt.run _ s8 σ8 H8 _ I8 q8) fun b s9 ⟨H9, I9, q9⟩ => ?_
      -- one turn less
      have next : ∀ {s' : Shared} {H' : Hp}, Inv (X.blk s3 H3 scope ce fp) ([] ++ pinsAt fp s7.heap) σ8 H' s' → Nx H' → ∃ m, m < n ∧ ∃ i H', Inv (X.blk s3 H3 scope ce fp) [] (wipe σ (own.map (·.2))) H' s' ∧ tn i s'.heap ∧ (∀ b ∈ fp, H' b = none) ∧ W i m H' := fun {s' H'} I' nx => by
        obtain ⟨m', hm, w'⟩ := hNx H' nx
        have still : ∀ b ∈ fp, ∀ o, s7.heap.get? b = some o → s'.heap.get? b = some o ∧ H' b = none := fun b hb o e => by
          have z := I'.pin (b, o) (List.mem_append_right _ (List.mem_append_right _ (mem_pinsAt hb e)))
          exact ⟨z.1, z.2.1⟩
        have hl : (wipe σ (own.map (·.2))).length = σ8.length := by rw [← hw8, wipe_length]
        refine ⟨m', hm, i + 1, H', (I'.unpinned (pins := [])).weak hl (fun j v e => (wipe_some (hw8 ▸ e)).1), T.keep _ _ _ st7 fun b hb o e => (still b hb o e).1, fun b hb => ?_, w'⟩
        obtain ⟨o, e, _⟩ := T.obj _ _ st7 b hb
        exact (still b hb o e).2
      cases b with
      | false =>
        simp only [Bool.false_eq_true, if_false] at q9 ⊢
        exact next I9 q9
      | true =>
        simp only [if_true] at q9 ⊢
        refine thnF (pe.run _ s9 σ8 H9 _ I9 q9) fun z s10 ⟨yv, H10, I10, r10, x0, ss, ey, hD10, room, nx⟩ => ?_
        subst ey
        obtain ⟨t, rfl⟩ : ∃ t, z = Value.str x0 t := r10
        exact addT_ok (X := X.blk s3 H3 scope ce fp) I10 hD10 room fun s11 I11 => next I11 nx
  exact codeAny_compStart_set loop (T.self X.A 0 _ _ _ st4 loop)
end
/-- over the numbers lo, lo + 1, .. (n of them) -/
theorem st_range {w : World} {lo : Int} {n : Nat} {g : TG} {tt : TT} {te : TE} {vs : List Nat} {σ : L2.St} {H0 : Hp} {D : Addr} {Qd : Hp → Prop} (Pv : Nat → Hp → Prop) (h0 : Pv 0 H0)
    (hs : ∀ i H, i < n → Pv i H → g (.int (lo + i)) (wipe σ vs) H fun σ2 H2 => wipe σ2 vs = wipe σ vs ∧ tt σ2 H2 fun b H3 => if b = true then te σ2 H3 (gain w D (Pv (i + 1))) else Pv (i + 1) H3) (hd : ∀ H, Pv n H → Qd H) :
    Turns w (Itr lo n) g tt te vs σ D Qd H0 := by
  refine ⟨fun i m H => m = n - i ∧ i ≤ n ∧ Pv i H, ⟨n, by simp, Nat.zero_le _, h0⟩, ?_⟩
  rintro i m H ⟨rfl, hi, p⟩
  by_cases hlt : i < n
  · refine .inr ⟨hlt, Pv (i + 1), fun H' p' => ⟨n - (i + 1), by omega, rfl, hlt, p'⟩, fun x H' ⟨e1, e2⟩ => ?_⟩
    subst e1 e2
    exact hs i H' hlt p
  · have e : i = n := by omega
    subst e
    exact .inl ⟨Nat.le_refl _, hd H p⟩
end Ami

set_option linter.all false
/-! words that are powers, and words within their double: plain lists, for k02 -/
namespace K02m
/-- p is a period of f -/
def Per {α : Type} (f : Nat → α) (p : Nat) : Prop := ∀ i, f (i + p) = f i
theorem Per.mul {α : Type} {f : Nat → α} {p : Nat} (h : Per f p) : ∀ k, Per f (k * p)
  | 0 => fun i => by rw [Nat.zero_mul]; rfl
  | k + 1 => fun i => by
    rw [Nat.succ_mul, ← Nat.add_assoc, h, Per.mul h k]
theorem Per.mod {α : Type} {f : Nat → α} {p q : Nat} (hp : Per f p) (hq : Per f q) : Per f (q % p) := fun i => by
  have e : i + q % p + (q / p) * p = i + q := by
    have := Nat.mod_add_div q p
    rw [Nat.mul_comm] at this
    omega
  rw [← Per.mul hp (q / p) (i + q % p), e, hq]
theorem Per.gcd {α : Type} {f : Nat → α} : ∀ (p q : Nat), Per f p → Per f q → Per f (Nat.gcd p q) := by
  intro p q
  induction p, q using Nat.gcd.induction with
  | H0 q => intro _ h; rw [Nat.gcd_zero_left]; exact h
  | H1 p q hp ih =>
    intro h1 h2
    rw [Nat.gcd_rec]
    exact ih (Per.mod h1 h2) h1
/-- the letters of w, again and again -/
def ring {α : Type} [Inhabited α] (w : List α) (i : Nat) : α := w.getD (i % w.length) default
theorem ring_len {α : Type} [Inhabited α] (w : List α) : Per (ring w) w.length := fun i => by
  unfold ring
  rw [Nat.add_mod_right]
theorem ring_at {α : Type} [Inhabited α] {w : List α} {i : Nat} (h : i < w.length) : ring w i = w[i] := by
  unfold ring
  rw [Nat.mod_eq_of_lt h, List.getD_eq_getElem?_getD, List.getElem?_eq_getElem h]; rfl
/-- w turned by j is w: then j is a period of its ring -/
theorem per_of_turn {α : Type} [Inhabited α] {w : List α} {j : Nat} (hj : j ≤ w.length) (h : w.drop j ++ w.take j = w) : Per (ring w) j := by
  intro i
  by_cases h0 : w.length = 0
  · have : w = [] := List.length_eq_zero_iff.mp h0
    subst this
    unfold ring
    simp
  · have hn : 0 < w.length := Nat.pos_of_ne_zero h0
    have key : ∀ m, m < w.length → ring w (m + j) = ring w m := by
      intro m hm
      rw [ring_at hm]
      have e : w[m]? = (w.drop j ++ w.take j)[m]? := by rw [h]
      rw [List.getElem?_eq_getElem hm] at e
      by_cases c : m + j < w.length
      · rw [ring_at c]
        rw [List.getElem?_append_left (by rw [List.length_drop]; omega), List.getElem?_drop, List.getElem?_eq_getElem (by omega : j + m < w.length)] at e
        have e2 := Option.some.inj e
        rw [e2]
        congr 1
        omega
      · rw [List.getElem?_append_right (by rw [List.length_drop]; omega), List.length_drop, List.getElem?_take_of_lt (by omega), List.getElem?_eq_getElem (by omega : m - (w.length - j) < w.length)] at e
        have e2 := Option.some.inj e
        rw [e2]
        have e3 : (m + j) % w.length = m - (w.length - j) := by
          rw [Nat.mod_eq_sub_mod (by omega), Nat.mod_eq_of_lt (by omega)]
          omega
        unfold ring
        rw [e3, List.getD_eq_getElem?_getD, List.getElem?_eq_getElem (by omega : m - (w.length - j) < w.length)]
        rfl
    have e1 : ring w i = ring w (i % w.length) := by unfold ring; rw [Nat.mod_mod]
    have e2 : ring w (i + j) = ring w (i % w.length + j) := by
      unfold ring
      rw [Nat.mod_add_mod]
    rw [e1, e2]
    exact key _ (Nat.mod_lt _ hn)
/-- a period k of the ring, a divisor of the length: w is its first k letters, repeated -/
theorem power_of_per {α : Type} [Inhabited α] {w : List α} {k : Nat} (hk : 0 < k) (hd : k ∣ w.length) (h : Per (ring w) k) : (List.replicate (w.length / k) (w.take k)).flatten = w := by
  obtain ⟨c, hc⟩ := hd
  have hq : w.length / k = c := by rw [hc, Nat.mul_div_cancel_left _ hk]
  rw [hq]
  have all : ∀ m, m ≤ c → (List.replicate m (w.take k)).flatten = w.take (m * k) := by
    intro m
    induction m with
    | zero => intro _; simp
    | succ m ih =>
      intro hm
      rw [List.replicate_succ', List.flatten_append, ih (by omega), List.flatten_singleton, Nat.succ_mul, List.take_add]
      congr 1
      have hlen : (m + 1) * k ≤ w.length := by
        rw [hc, Nat.mul_comm k c]
        exact Nat.mul_le_mul_right k hm
      rw [Nat.succ_mul] at hlen
      refine List.ext_getElem ?_ fun i h1 h2 => ?_
      · rw [List.length_take, List.length_take, List.length_drop]
        omega
      · rw [List.getElem_take, List.getElem_take, List.getElem_drop]
        have hi : i < k := by
          rw [List.length_take] at h1
          omega
        rw [← ring_at (by omega : i < w.length), ← ring_at (by omega : m * k + i < w.length)]
        rw [Nat.add_comm (m * k) i]
        exact (Per.mul h m i).symm
  rw [all c (Nat.le_refl _), Nat.mul_comm, ← hc, List.take_length]
/-- w is its first k letters repeated: w turned by k is w -/
theorem turn_of_power {α : Type} {w : List α} {k : Nat} (hk : k ≤ w.length) (h : (List.replicate (w.length / k) (w.take k)).flatten = w) (hc : 0 < w.length / k) : w.drop k ++ w.take k = w := by
  obtain ⟨c, hc'⟩ : ∃ c, w.length / k = c + 1 := ⟨w.length / k - 1, by omega⟩
  rw [hc'] at h
  have e1 : w.take k ++ (List.replicate c (w.take k)).flatten = w := by
    rw [← List.flatten_cons, ← List.replicate_succ]; exact h
  have hl : (w.take k).length = k := by rw [List.length_take]; omega
  have e2 : w.drop k = (List.replicate c (w.take k)).flatten := by
    have := congrArg (List.drop k) e1
    rw [List.drop_append_of_le_length (by omega), List.drop_eq_nil_of_le (by omega), List.nil_append] at this
    exact this.symm
  rw [e2]
  have e3 : (List.replicate c (w.take k)).flatten ++ w.take k = (List.replicate (c + 1) (w.take k)).flatten := by
    rw [List.replicate_succ', List.flatten_append, List.flatten_singleton]
  rw [e3]; exact h
/-- a turn that gives w again, a true one: w is a smaller word, repeated; and the other way round -/
theorem turn_iff_power {α : Type} [Inhabited α] (w : List α) : (∃ j, 0 < j ∧ j < w.length ∧ w.drop j ++ w.take j = w) ↔ (∃ k, 0 < k ∧ k < w.length ∧ w.length % k = 0 ∧ (List.replicate (w.length / k) (w.take k)).flatten = w) := by
  constructor
  · rintro ⟨j, h0, h1, h⟩
    have p := per_of_turn (Nat.le_of_lt h1) h
    have g := Per.gcd j w.length p (ring_len w)
    have g0 : 0 < Nat.gcd j w.length := Nat.gcd_pos_of_pos_left _ h0
    have gl : Nat.gcd j w.length ≤ j := Nat.le_of_dvd h0 (Nat.gcd_dvd_left _ _)
    exact ⟨Nat.gcd j w.length, g0, by omega, Nat.mod_eq_zero_of_dvd (Nat.gcd_dvd_right _ _), power_of_per g0 (Nat.gcd_dvd_right _ _) g⟩
  · rintro ⟨k, h0, h1, hm, h⟩
    exact ⟨k, h0, h1, turn_of_power (Nat.le_of_lt h1) h (Nat.div_pos (Nat.le_of_lt h1) h0)⟩
end K02m

set_option linter.all false
/-! words that are turned and repeated: roots, and how many turns there are -/
namespace Rng
open K02m
section
variable {α : Type}
theorem perm_of [DecidableEq α] {a b : List α} (ha : a.Nodup) (hb : b.Nodup) (h : ∀ x, x ∈ a ↔ x ∈ b) : a.Perm b := by
  rw [List.perm_iff_count]
  intro x
  by_cases hx : x ∈ a
  · rw [List.Nodup.count ha, List.Nodup.count hb, if_pos hx, if_pos ((h x).mp hx)]
  · rw [List.count_eq_zero_of_not_mem hx, List.count_eq_zero_of_not_mem fun z => hx ((h x).mpr z)]
def sumBy (f : α → Nat) (l : List α) : Nat := (l.map f).sum
theorem sumBy_nil (f : α → Nat) : sumBy f [] = 0 := rfl
theorem sumBy_cons (f : α → Nat) (a : α) (l : List α) : sumBy f (a :: l) = f a + sumBy f l := rfl
theorem sumBy_append (f : α → Nat) (a b : List α) : sumBy f (a ++ b) = sumBy f a + sumBy f b := by
  unfold sumBy
  rw [List.map_append, List.sum_append_nat]
theorem sumBy_perm (f : α → Nat) {a b : List α} (h : a.Perm b) : sumBy f a = sumBy f b := by
  induction h with
  | nil => rfl
  | cons x _ ih => rw [sumBy_cons, sumBy_cons, ih]
  | swap x y l => rw [sumBy_cons, sumBy_cons, sumBy_cons, sumBy_cons]; omega
  | trans _ _ h1 h2 => exact h1.trans h2
theorem sumBy_congr {f g : α → Nat} {l : List α} (h : ∀ x ∈ l, f x = g x) : sumBy f l = sumBy g l := by
  induction l with
  | nil => rfl
  | cons a l ih =>
    rw [sumBy_cons, sumBy_cons, h a List.mem_cons_self, ih fun x hx => h x (List.mem_cons_of_mem _ hx)]
theorem sumBy_add (f g : α → Nat) (l : List α) : sumBy (fun x => f x + g x) l = sumBy f l + sumBy g l := by
  induction l with
  | nil => rfl
  | cons a l ih => rw [sumBy_cons, sumBy_cons, sumBy_cons, ih]; omega
theorem sumBy_mul (c : Nat) (f : α → Nat) (l : List α) : sumBy (fun x => c * f x) l = c * sumBy f l := by
  induction l with
  | nil => rfl
  | cons a l ih => rw [sumBy_cons, sumBy_cons, ih, Nat.mul_add]
theorem sumBy_const (c : Nat) (l : List α) : sumBy (fun _ => c) l = l.length * c := by
  induction l with
  | nil => simp [sumBy]
  | cons a l ih => rw [sumBy_cons, ih, List.length_cons, Nat.succ_mul]; omega
theorem sumBy_map {β : Type} (f : β → Nat) (g : α → β) (l : List α) : sumBy f (l.map g) = sumBy (fun x => f (g x)) l := by
  unfold sumBy
  rw [List.map_map]; rfl
theorem sumBy_flat {β : Type} (f : β → Nat) (g : α → List β) (l : List α) : sumBy f (l.flatMap g) = sumBy (fun x => sumBy f (g x)) l := by
  induction l with
  | nil => rfl
  | cons a l ih => rw [List.flatMap_cons, sumBy_append, ih, sumBy_cons]
theorem sumBy_swap {β : Type} (f : α → β → Nat) (l : List α) (m : List β) : sumBy (fun x => sumBy (f x) m) l = sumBy (fun y => sumBy (fun x => f x y) l) m := by
  induction l with
  | nil =>
    show 0 = _
    rw [show (fun y => sumBy (fun x => f x y) []) = fun _ : β => 0 from rfl, sumBy_const, Nat.mul_zero]
  | cons a l ih =>
    rw [sumBy_cons, ih, ← sumBy_add]; rfl
theorem sumBy_pick [DecidableEq α] (c : Nat) (a : α) : ∀ {D : List α}, D.Nodup → a ∈ D → sumBy (fun d => if a = d then c else 0) D = c
  | d :: D, hn, hm => by
    rw [List.nodup_cons] at hn
    rw [sumBy_cons]
    by_cases e : a = d
    · rw [if_pos e]
      have : sumBy (fun d => if a = d then c else 0) D = sumBy (fun _ => 0) D := sumBy_congr fun x hx => if_neg fun z => hn.1 (by rw [← e, z]; exact hx)
      rw [this, sumBy_const]; omega
    · rw [if_neg e, sumBy_pick c a hn.2 ((List.mem_cons.mp hm).resolve_left e)]; omega
/-- a sum, sorted by what g says -/
theorem sum_split {β : Type} [DecidableEq β] (g : α → β) (f : α → Nat) {D : List β} (hD : D.Nodup) : ∀ {l : List α}, (∀ w ∈ l, g w ∈ D) → sumBy f l = sumBy (fun d => sumBy f (l.filter fun w => decide (g w = d))) D
  | [], _ => by
    rw [show (fun d => sumBy f (([] : List α).filter fun w => decide (g w = d))) = fun _ : β => 0 from rfl, sumBy_const, Nat.mul_zero]; rfl
  | w :: l, h => by
    have ih := sum_split g f hD (l := l) fun x hx => h x (List.mem_cons_of_mem _ hx)
    have e : (fun d => sumBy f ((w :: l).filter fun w => decide (g w = d))) = fun d => (if g w = d then f w else 0) + sumBy f (l.filter fun w => decide (g w = d)) := by
      funext d
      rw [List.filter_cons]
      by_cases hd : g w = d
      · rw [if_pos (decide_eq_true hd), if_pos hd, sumBy_cons]
      · rw [if_neg (by rw [decide_eq_false hd]; decide), if_neg hd]; omega
    rw [sumBy_cons, ih, e, sumBy_add, sumBy_pick _ _ hD (h w List.mem_cons_self)]
theorem length_filter_two (p : α → Bool) : ∀ l : List α, l.length = (l.filter p).length + (l.filter fun x => !p x).length
  | [] => rfl
  | a :: l => by
    have ih := length_filter_two p l
    rw [List.filter_cons, List.filter_cons]
    cases p a with
    | true => simp only [if_true, Bool.not_true, Bool.false_eq_true, if_false, List.length_cons]; omega
    | false => simp only [Bool.false_eq_true, if_false, Bool.not_false, if_true, List.length_cons]; omega
/-- f, so many times -/
def it (f : α → α) : Nat → α → α
  | 0, x => x
  | n + 1, x => it f n (f x)
theorem it_add (f : α → α) : ∀ (a b : Nat) (x : α), it f (a + b) x = it f b (it f a x)
  | 0, b, x => by rw [Nat.zero_add]; rfl
  | a + 1, b, x => by
    rw [Nat.add_right_comm]
    exact it_add f a b (f x)
theorem it_succ (f : α → α) (n : Nat) (x : α) : it f (n + 1) x = f (it f n x) := it_add f n 1 x
theorem it_mem {f : α → α} {X : List α} (h : ∀ x ∈ X, f x ∈ X) : ∀ (n : Nat) {x : α}, x ∈ X → it f n x ∈ X
  | 0, _, hx => hx
  | n + 1, _, hx => it_mem h n (h _ hx)
theorem it_mul {f : α → α} {m : Nat} {x : α} (h : it f m x = x) : ∀ k, it f (k * m) x = x
  | 0 => by rw [Nat.zero_mul]; rfl
  | k + 1 => by rw [Nat.succ_mul, it_add, it_mul h k, h]
theorem it_mod {f : α → α} {m : Nat} {x : α} (h : it f m x = x) (n : Nat) : it f n x = it f (n % m) x := by
  conv => lhs; rw [← Nat.div_add_mod n m, Nat.mul_comm, it_add, it_mul h]
/-- all circles have m members: m divides -/
theorem circles [DecidableEq α] {f : α → α} {m : Nat} (hm : 0 < m) : ∀ (k : Nat) {X : List α}, X.length ≤ k → X.Nodup → (∀ x ∈ X, f x ∈ X) → (∀ x ∈ X, it f m x = x) → (∀ x ∈ X, ∀ i, 0 < i → i < m → it f i x ≠ x) → m ∣ X.length
  | 0, [], _, _, _, _, _ => Nat.dvd_zero m
  | k + 1, [], _, _, _, _, _ => Nat.dvd_zero m
  | k + 1, x :: X0, hk, hn, hc, hr, ha => by
    generalize hX : x :: X0 = X at *
    have hx : x ∈ X := by rw [← hX]; exact List.mem_cons_self
    have hr' := hr x hx
    have nd : ((List.range m).map fun i => it f i x).Nodup := by
      refine List.pairwise_map.mpr (List.Pairwise.imp_of_mem ?_ List.pairwise_lt_range)
      intro i j hi hj hij e
      rw [List.mem_range] at hi hj
      have e2 := congrArg (it f (m - i)) e
      rw [← it_add, ← it_add, show i + (m - i) = m from by omega, hr', show j + (m - i) = (j - i) + m from by omega, it_add] at e2
      have e3 := hr (it f (j - i) x) (it_mem hc _ hx)
      rw [e3] at e2
      exact ha x hx (j - i) (by omega) (by omega) e2.symm
    have memO : ∀ y, y ∈ ((List.range m).map fun i => it f i x) ↔ ∃ i, y = it f i x := by
      intro y
      rw [List.mem_map]
      constructor
      · rintro ⟨i, _, rfl⟩; exact ⟨i, rfl⟩
      · rintro ⟨i, rfl⟩
        exact ⟨i % m, List.mem_range.mpr (Nat.mod_lt _ hm), (it_mod hr' i).symm⟩
    have two := length_filter_two (fun y => decide (y ∈ (List.range m).map fun i => it f i x)) X
    have p1 : (X.filter fun y => decide (y ∈ (List.range m).map fun i => it f i x)).Perm ((List.range m).map fun i => it f i x) := by
      refine perm_of (hn.filter _) nd fun y => ?_
      rw [List.mem_filter, decide_eq_true_eq]
      constructor
      · exact And.right
      · intro h
        obtain ⟨i, rfl⟩ := (memO y).mp h
        exact ⟨it_mem hc i hx, h⟩
    have l1 := p1.length_eq
    rw [List.length_map, List.length_range] at l1
    have l2 : X.length = X0.length + 1 := by rw [← hX]; rfl
    have rest := circles (f := f) hm k (X := X.filter fun y => !decide (y ∈ (List.range m).map fun i => it f i x)) (by omega) (hn.filter _) ?_ ?_ ?_
    · rw [two, l1]
      exact Nat.dvd_add (Nat.dvd_refl m) rest
    · intro y hy
      rw [List.mem_filter, Bool.not_eq_true', decide_eq_false_iff_not] at hy ⊢
      refine ⟨hc y hy.1, fun z => hy.2 ?_⟩
      obtain ⟨i, e⟩ := (memO _).mp z
      have e2 := congrArg (it f (m - 1)) e
      rw [show it f (m - 1) (f y) = it f (m - 1 + 1) y from rfl, show m - 1 + 1 = m from by omega, hr y hy.1, ← it_add] at e2
      exact (memO y).mpr ⟨_, e2⟩
    · intro y hy
      exact hr y (List.mem_filter.mp hy).1
    · intro y hy
      exact ha y (List.mem_filter.mp hy).1
/-- turned by one letter -/
def r1 : List α → List α
  | [] => []
  | x :: l => l ++ [x]
theorem it_r1 : ∀ (j : Nat) (w : List α), j ≤ w.length → it r1 j w = w.drop j ++ w.take j
  | 0, w, _ => by rw [List.drop_zero, List.take_zero, List.append_nil]; rfl
  | j + 1, x :: l, h => by
    rw [List.length_cons] at h
    show it r1 j (l ++ [x]) = l.drop j ++ x :: l.take j
    rw [it_r1 j (l ++ [x]) (by rw [List.length_append]; omega), List.drop_append_of_le_length (by omega), List.take_append_of_le_length (by omega), List.append_assoc]; rfl
theorem r1_len (w : List α) : (r1 w).length = w.length := by
  cases w with
  | nil => rfl
  | cons x l => show (l ++ [x]).length = _; rw [List.length_append]; rfl
theorem r1_mem {w : List α} {x : α} : x ∈ r1 w ↔ x ∈ w := by
  cases w with
  | nil => exact Iff.rfl
  | cons y l =>
    show x ∈ l ++ [y] ↔ _
    rw [List.mem_append, List.mem_singleton, List.mem_cons]
    exact Or.comm
theorem r1_inj {v w : List α} (h : r1 v = r1 w) : v = w := by
  cases v with
  | nil =>
    have := congrArg List.length h
    rw [r1_len, r1_len] at this
    exact (List.length_eq_zero_iff.mp this.symm).symm
  | cons x l =>
    cases w with
    | nil =>
      have := congrArg List.length h
      rw [r1_len, r1_len] at this
      exact absurd this (by simp)
    | cons y m =>
      have h' : l ++ [x] = m ++ [y] := h
      have q := List.append_inj' h' rfl
      rw [q.1, (List.cons.inj q.2).1]
theorem it_r1_inj : ∀ (j : Nat) {v w : List α}, it r1 j v = it r1 j w → v = w
  | 0, _, _, h => h
  | j + 1, _, _, h => r1_inj (it_r1_inj j h)
/-- v, so many times -/
def pw (v : List α) (e : Nat) : List α := (List.replicate e v).flatten
theorem pw_succ (v : List α) (e : Nat) : pw v (e + 1) = v ++ pw v e := by
  unfold pw
  rw [List.replicate_succ, List.flatten_cons]
theorem pw_one (v : List α) : pw v 1 = v := by rw [pw_succ]; exact List.append_nil v
theorem pw_add (v : List α) (b : Nat) : ∀ a, pw v (a + b) = pw v a ++ pw v b
  | 0 => by rw [Nat.zero_add]; rfl
  | a + 1 => by rw [Nat.add_right_comm, pw_succ, pw_succ, pw_add v b a, List.append_assoc]
theorem pw_mul (v : List α) (a : Nat) : ∀ b, pw (pw v a) b = pw v (b * a)
  | 0 => by rw [Nat.zero_mul]; rfl
  | b + 1 => by rw [pw_succ, pw_mul v a b, Nat.succ_mul, Nat.add_comm, pw_add]
theorem pw_length (v : List α) : ∀ e, (pw v e).length = e * v.length
  | 0 => by rw [Nat.zero_mul]; rfl
  | e + 1 => by rw [pw_succ, List.length_append, pw_length v e, Nat.succ_mul]; omega
theorem pw_turn (v : List α) (e : Nat) : it r1 v.length (pw v (e + 1)) = pw v (e + 1) := by
  rw [it_r1 _ _ (by rw [pw_succ, List.length_append]; omega), pw_succ, List.drop_left, List.take_left]
  have : pw v e ++ pw v 1 = pw v (e + 1) := (pw_add v 1 e).symm
  rw [pw_one] at this
  rw [this, pw_succ]
theorem least {P : Nat → Prop} (h : ∃ n, P n) : ∃ n, P n ∧ ∀ m, m < n → ¬ P m := by
  obtain ⟨n, hn⟩ := h
  induction n using Nat.strongRecOn with
  | _ n ih =>
    by_cases c : ∃ m, m < n ∧ P m
    · obtain ⟨m, h1, h2⟩ := c
      exact ih m h1 h2
    · exact ⟨n, hn, fun m h1 h2 => c ⟨m, h1, h2⟩⟩
theorem it_len (w : List α) : it r1 w.length w = w := by
  rw [it_r1 _ _ (Nat.le_refl _), List.drop_length, List.take_length]; rfl
theorem per_ex (w : List α) : ∃ n, 0 < n ∧ it r1 n w = w := by
  by_cases h : w = []
  · subst h
    exact ⟨1, by decide, rfl⟩
  · exact ⟨w.length, List.length_pos_iff.mpr h, it_len w⟩
/-- the least turn that gives the word again -/
noncomputable def per (w : List α) : Nat := Classical.choose (least (per_ex w))
theorem per_pos (w : List α) : 0 < per w := (Classical.choose_spec (least (per_ex w))).1.1
theorem per_turn (w : List α) : it r1 (per w) w = w := (Classical.choose_spec (least (per_ex w))).1.2
theorem per_least {w : List α} {j : Nat} (h0 : 0 < j) (h : it r1 j w = w) : per w ≤ j := by
  refine Nat.le_of_not_lt fun c => ?_
  exact (Classical.choose_spec (least (per_ex w))).2 j c ⟨h0, h⟩
theorem per_le {w : List α} (h : w ≠ []) : per w ≤ w.length := per_least (List.length_pos_iff.mpr h) (it_len w)
end
section
variable {α : Type} [Inhabited α]
/-- a common divisor of a turn and the length is a turn, too -/
theorem turn_gcd {w : List α} (hw : w ≠ []) {j : Nat} (h0 : 0 < j) (hj : j ≤ w.length) (h : it r1 j w = w) : pw (w.take (Nat.gcd j w.length)) (w.length / Nat.gcd j w.length) = w ∧ it r1 (Nat.gcd j w.length) w = w := by
  rw [it_r1 j w hj] at h
  have g := Per.gcd j w.length (per_of_turn hj h) (ring_len w)
  have g0 : 0 < Nat.gcd j w.length := Nat.gcd_pos_of_pos_left _ h0
  have gl : Nat.gcd j w.length ≤ w.length := Nat.le_of_dvd (List.length_pos_iff.mpr hw) (Nat.gcd_dvd_right _ _)
  have e := power_of_per g0 (Nat.gcd_dvd_right _ _) g
  refine ⟨e, ?_⟩
  rw [it_r1 _ _ gl]
  exact turn_of_power gl e (Nat.div_pos gl g0)
theorem per_dvd {w : List α} (hw : w ≠ []) : per w ∣ w.length ∧ pw (w.take (per w)) (w.length / per w) = w := by
  obtain ⟨a, b⟩ := turn_gcd hw (per_pos w) (per_le hw) (per_turn w)
  have g0 : 0 < Nat.gcd (per w) w.length := Nat.gcd_pos_of_pos_left _ (per_pos w)
  have h1 := per_least g0 b
  have h2 : Nat.gcd (per w) w.length ≤ per w := Nat.le_of_dvd (per_pos w) (Nat.gcd_dvd_left _ _)
  have e : Nat.gcd (per w) w.length = per w := by omega
  rw [e] at a
  refine ⟨?_, a⟩
  have := Nat.gcd_dvd_right (per w) w.length
  rwa [e] at this
/-- no smaller word, repeated -/
def Prim (w : List α) : Prop := w ≠ [] ∧ per w = w.length
theorem root_prim {w : List α} (hw : w ≠ []) : Prim (w.take (per w)) ∧ (w.take (per w)).length = per w := by
  obtain ⟨hd, hp⟩ := per_dvd hw
  have hl : (w.take (per w)).length = per w := by rw [List.length_take]; have := per_le hw; omega
  have ne : w.take (per w) ≠ [] := fun e => by
    have := per_pos w
    rw [← hl, e] at this
    exact absurd this (by simp)
  refine ⟨⟨ne, ?_⟩, hl⟩
  obtain ⟨d2, p2⟩ := per_dvd ne
  have le := per_le ne
  refine Nat.le_antisymm le ?_
  rw [hl]
  refine per_least (per_pos _) ?_
  obtain ⟨e, he⟩ : ∃ e, (w.length / per w) * ((w.take (per w)).length / per (w.take (per w))) = e + 1 := by
    have q1 : 0 < w.length / per w := Nat.div_pos (per_le hw) (per_pos w)
    have q2 : 0 < (w.take (per w)).length / per (w.take (per w)) := Nat.div_pos le (per_pos _)
    have := Nat.mul_pos q1 q2
    exact ⟨_, (Nat.succ_pred_eq_of_pos this).symm⟩
  have e2 : pw ((w.take (per w)).take (per (w.take (per w)))) (e + 1) = w := by
    rw [← he, ← pw_mul, p2, hp]
  have e3 := pw_turn ((w.take (per w)).take (per (w.take (per w)))) e
  rw [e2] at e3
  have e4 : ((w.take (per w)).take (per (w.take (per w)))).length = per (w.take (per w)) := by rw [List.length_take]; omega
  rw [e4] at e3
  exact e3
theorem per_pw {v : List α} (hv : Prim v) (e : Nat) : per (pw v (e + 1)) = v.length := by
  have vp : 0 < v.length := List.length_pos_iff.mpr hv.1
  have h1 : per (pw v (e + 1)) ≤ v.length := per_least vp (pw_turn v e)
  have ne : pw v (e + 1) ≠ [] := fun z => by
    have : (pw v (e + 1)).length = 0 := by rw [z]; rfl
    rw [pw_length, Nat.succ_mul] at this
    omega
  have le := per_le ne
  refine Nat.le_antisymm h1 ?_
  -- the least turn divides the length of v
  have t1 := per_turn (pw v (e + 1))
  have lw : (pw v (e + 1)).length = (e + 1) * v.length := pw_length v _
  have pr := per_of_turn le (by rw [← it_r1 _ _ le]; exact t1)
  have vl : v.length ≤ (pw v (e + 1)).length := by rw [lw, Nat.succ_mul]; omega
  have pv := per_of_turn vl (by rw [← it_r1 _ _ vl]; exact pw_turn v e)
  have g := Per.gcd _ _ pr pv
  have g0 : 0 < Nat.gcd (per (pw v (e + 1))) v.length := Nat.gcd_pos_of_pos_left _ (per_pos _)
  have gd : Nat.gcd (per (pw v (e + 1))) v.length ∣ v.length := Nat.gcd_dvd_right _ _
  have gl : Nat.gcd (per (pw v (e + 1))) v.length ≤ per (pw v (e + 1)) := Nat.le_of_dvd (per_pos _) (Nat.gcd_dvd_left _ _)
  have pe := power_of_per g0 (by rw [lw]; exact Nat.dvd_trans gd (Nat.dvd_mul_left _ _)) g
  generalize Nat.gcd (per (pw v (e + 1))) v.length = q at g0 gd gl pe
  obtain ⟨c, hc⟩ := gd
  have c0 : 0 < c := Nat.pos_of_ne_zero fun z => by rw [z] at hc; omega
  have ec : (pw v (e + 1)).length / q = (e + 1) * c := by
    rw [lw, hc, Nat.mul_left_comm, Nat.mul_div_cancel_left _ g0]
  rw [ec] at pe
  have pe' : pw ((pw v (e + 1)).take q) (c + e * c) = pw v (e + 1) := by
    rw [show c + e * c = (e + 1) * c from by rw [Nat.succ_mul]; omega]
    exact pe
  have lq : ((pw v (e + 1)).take q).length = q := by
    rw [List.length_take]
    have : q ≤ v.length := Nat.le_of_dvd vp ⟨c, hc⟩
    omega
  generalize (pw v (e + 1)).take q = x at pe' lq
  have ev : pw x c = v := by
    have t := congrArg (List.take v.length) pe'
    rw [pw_add, pw_succ v e, List.take_left, List.take_left' (by rw [pw_length, lq, hc, Nat.mul_comm])] at t
    exact t
  obtain ⟨c', rfl⟩ : ∃ c', c = c' + 1 := ⟨c - 1, by omega⟩
  have tv := pw_turn x c'
  rw [ev, lq] at tv
  have := per_least g0 tv
  rw [hv.2] at this
  omega
theorem prim_iff {w : List α} (hw : w ≠ []) : Prim w ↔ ¬ ∃ j, 0 < j ∧ j < w.length ∧ w.drop j ++ w.take j = w := by
  constructor
  · rintro ⟨_, h⟩ ⟨j, h0, h1, h2⟩
    rw [← it_r1 j w (Nat.le_of_lt h1)] at h2
    have := per_least h0 h2
    omega
  · intro h
    refine ⟨hw, Nat.le_antisymm (per_le hw) (Nat.le_of_not_lt fun c => h ⟨per w, per_pos w, c, ?_⟩)⟩
    rw [← it_r1 _ w (per_le hw)]
    exact per_turn w
theorem prim_r1 {w : List α} (h : Prim w) : Prim (r1 w) := by
  have ne : r1 w ≠ [] := fun e => h.1 (List.length_eq_zero_iff.mp (by rw [← r1_len, e]; rfl))
  refine ⟨ne, Nat.le_antisymm (per_le ne) ?_⟩
  rw [r1_len, ← h.2]
  refine per_least (per_pos _) ?_
  have t := per_turn (r1 w)
  have e : it r1 (per (r1 w)) (r1 w) = r1 (it r1 (per (r1 w)) w) := it_succ r1 _ w
  rw [e] at t
  exact r1_inj t
end
end Rng

set_option linter.all false
set_option maxRecDepth 100000
/-! numbers of rings of letters, by the sums and by counting -/
namespace K41m
/-- the sum of all part * rings[part], part a divisor of the next length -/
def rep (rs : List Int) : Int := (((List.range' 1 rs.length).filter fun p => decide ((rs.length + 1) % p = 0)).map fun p : Nat => (p : Int) * rs.getD (p - 1) 0).sum
def ringStep (rs : List Int) (t : Int) : List Int := rs ++ [(t - rep rs) / ((rs.length + 1 : Nat) : Int)]
def rings (ts : List Int) : List Int := ts.foldl ringStep []
def pows (m n : Nat) : List Int := (List.range n).map fun k => ((m ^ (k + 1) : Nat) : Int)
def last (m n : Nat) : Int := (rings (pows m n)).getD (n - 1) 0
theorem rings_snoc (ts : List Int) (t : Int) : rings (ts ++ [t]) = ringStep (rings ts) t := by
  unfold rings
  rw [List.foldl_append]; rfl
theorem step_length (rs : List Int) (t : Int) : (ringStep rs t).length = rs.length + 1 := by
  unfold ringStep
  rw [List.length_append]; rfl
theorem rings_length (ts : List Int) : (rings ts).length = ts.length := by
  have h : ∀ (l : List Int) (acc : List Int), (l.foldl ringStep acc).length = acc.length + l.length := by
    intro l
    induction l with
    | nil => intro acc; rfl
    | cons t l ih =>
      intro acc
      rw [List.foldl_cons, ih, step_length, List.length_cons]; omega
  have q := h ts []
  unfold rings
  rw [q]; simp
theorem pows_length (m n : Nat) : (pows m n).length = n := by
  unfold pows
  rw [List.length_map, List.length_range]
theorem pows_succ (m n : Nat) : pows m (n + 1) = pows m n ++ [((m ^ (n + 1) : Nat) : Int)] := by
  unfold pows
  rw [List.range_succ, List.map_append]; rfl
theorem rings_pows (m n : Nat) : (rings (pows m n)).length = n := by rw [rings_length, pows_length]
/-- the last numbers, one behind the other, are all of them -/
theorem lasts (m : Nat) : ∀ n, (List.range' 1 n).map (last m) = rings (pows m n)
  | 0 => rfl
  | n + 1 => by
    rw [List.range'_1_concat, List.map_append, lasts m n]
    have e : rings (pows m (n + 1)) = rings (pows m n) ++ [last m (1 + n)] := by
      rw [pows_succ, rings_snoc]
      have e2 : last m (1 + n) = (rings (pows m n) ++ [(((m ^ (n + 1) : Nat) : Int) - rep (rings (pows m n))) / (((rings (pows m n)).length + 1 : Nat) : Int)]).getD n 0 := by
        unfold last
        rw [Nat.add_comm 1 n, pows_succ, rings_snoc]; rfl
      rw [e2, List.getD_eq_getElem?_getD, List.getElem?_append_right (by rw [rings_pows]; exact Nat.le_refl _), rings_pows]
      simp [ringStep, rings_pows]
    rw [e]; rfl
/-- the sum over the divisors of n -/
def total (n : Nat) (rs : List Int) : Int := (((List.range' 1 n).filter fun p => decide (n % p = 0)).map fun p : Nat => (p : Int) * rs.getD (p - 1) 0).sum
def okAt (m n : Nat) : Bool := (rings (pows m n)).all (fun x => decide (0 ≤ x)) && decide (total n (rings (pows m n)) = ((m ^ n : Nat) : Int))
theorem sums_ok : ((List.range' 2 99).all fun m => (List.range' 1 16).all fun n => okAt m n) = true := by decide +kernel
theorem sums_at {m n : Nat} (h1 : 2 ≤ m) (h2 : m ≤ 100) (h3 : 1 ≤ n) (h4 : n ≤ 16) : (∀ x ∈ rings (pows m n), 0 ≤ x) ∧ total n (rings (pows m n)) = ((m ^ n : Nat) : Int) := by
  have q := List.all_eq_true.mp (List.all_eq_true.mp sums_ok m (by rw [List.mem_range'_1]; omega)) n (by rw [List.mem_range'_1]; omega)
  unfold okAt at q
  rw [Bool.and_eq_true, decide_eq_true_eq, List.all_eq_true] at q
  exact ⟨fun x hx => of_decide_eq_true (q.1 x hx), q.2⟩
/-- the rows of n of some signs -/
def rowsW (S : List Nat) : Nat → List (List Nat)
  | 0 => [[]]
  | n + 1 => (rowsW S n).flatMap fun r => S.map fun s => r ++ [s]
def ltB : List Nat → List Nat → Bool
  | _, [] => false
  | [], _ :: _ => true
  | a :: l, b :: m => Nat.blt a b || (Nat.beq a b && ltB l m)
theorem ltB_is : ∀ l m : List Nat, ltB l m = decide (l < m)
  | l, [] => by
    cases l <;> simp [ltB]
  | [], b :: m => by simp [ltB]
  | a :: l, b :: m => by
    have ih := ltB_is l m
    unfold ltB
    rw [ih]
    by_cases h : a < b
    · simp [h, Nat.blt_eq, List.cons_lt_cons_iff]
    · by_cases e : a = b
      · subst e; simp [List.cons_lt_cons_iff]
      · have hb : Nat.blt a b = false := Bool.eq_false_iff.mpr (by rw [ne_eq, Nat.blt_eq]; exact h)
        simp [h, e, hb, List.cons_lt_cons_iff]
/-- less than all its turns at other places -/
def lynB (n : Nat) (r : List Nat) : Bool := (List.range' 1 (n - 1)).all fun k => ltB r (r.drop k ++ r.take k)
def cnt (S : List Nat) (n : Nat) : Nat := ((rowsW S n).filter (lynB n)).length
/-- the letters of the law -/
def four : List (List Nat) := [[97, 98], [97, 98, 99], [97, 98, 99, 100], [97, 98, 99, 100, 101]]
theorem counts_ok : (four.all fun S => (List.range' 1 10).all fun n => !decide (S.length ^ n < 1101) || decide ((cnt S n : Int) = last S.length n)) = true := by decide +kernel
theorem counts_at {S : List Nat} {n : Nat} (hS : S ∈ four) (h1 : 1 ≤ n) (h2 : n ≤ 10) (h : S.length ^ n < 1101) : (cnt S n : Int) = last S.length n := by
  have q := List.all_eq_true.mp (List.all_eq_true.mp counts_ok S hS) n (by rw [List.mem_range'_1]; omega)
  rw [decide_eq_true h] at q
  exact of_decide_eq_true q
theorem rows_mem {S : List Nat} : ∀ n, ∀ r ∈ rowsW S n, r.length = n ∧ ∀ d ∈ r, d ∈ S
  | 0, r, h => by
    rw [List.mem_singleton.mp h]
    exact ⟨rfl, fun d hd => nomatch hd⟩
  | n + 1, r, h => by
    obtain ⟨q, hq, hr⟩ := List.mem_flatMap.mp h
    obtain ⟨d, hd, rfl⟩ := List.mem_map.mp hr
    obtain ⟨a, b⟩ := rows_mem n q hq
    refine ⟨by rw [List.length_append, a]; rfl, fun e he => ?_⟩
    rcases List.mem_append.mp he with h | h
    · exact b e h
    · rw [List.mem_singleton.mp h]; exact hd
theorem rows_length (S : List Nat) : ∀ n, (rowsW S n).length = S.length ^ n
  | 0 => rfl
  | n + 1 => by
    show ((rowsW S n).flatMap _).length = _
    rw [List.length_flatMap]
    have e : (rowsW S n).map (fun r => (S.map fun s => r ++ [s]).length) = List.replicate (rowsW S n).length S.length := by
      refine List.eq_replicate_iff.mpr ⟨by rw [List.length_map], fun b hb => ?_⟩
      obtain ⟨r, _, rfl⟩ := List.mem_map.mp hb
      rw [List.length_map]
    rw [e, List.sum_replicate_nat, rows_length S n, Nat.pow_succ]
end K41m

set_option linter.all false
/-! rings of records: the sums and the count -/
namespace Rng
abbrev Sym := Nat × Nat
def tot (w : List Sym) : Nat := sumBy Prod.fst w
def first : List Sym → Nat
  | [] => 0
  | x :: _ => x.1
def step (u : List Nat) (t : List (List (List Sym))) : List (List Sym) :=
  (List.range t.length).flatMap fun k => (List.range (u.getD k 0)).flatMap fun j => (t.getD (t.length - 1 - k) []).map fun w => w ++ [(k + 1, j)]
def tab (u : List Nat) : Nat → List (List (List Sym))
  | 0 => [[[]]]
  | n + 1 => tab u n ++ [step u (tab u n)]
/-- all sequences with so many letters -/
def W (u : List Nat) (n : Nat) : List (List Sym) := (tab u n).getD n []
theorem tab_length (u : List Nat) : ∀ n, (tab u n).length = n + 1
  | 0 => rfl
  | n + 1 => by
    show (tab u n ++ [_]).length = _
    rw [List.length_append, tab_length u n]; rfl
theorem tab_at (u : List Nat) {i : Nat} : ∀ n, i ≤ n → (tab u n).getD i [] = W u i
  | 0, h => by
    have : i = 0 := by omega
    subst this; rfl
  | n + 1, h => by
    by_cases e : i = n + 1
    · subst e; rfl
    · have ih := tab_at u n (by omega : i ≤ n)
      rw [← ih]
      show (tab u n ++ [_]).getD i [] = _
      rw [List.getD_eq_getElem?_getD, List.getD_eq_getElem?_getD, List.getElem?_append_left (by rw [tab_length]; omega)]
theorem W_zero (u : List Nat) : W u 0 = [[]] := rfl
theorem W_succ (u : List Nat) (n : Nat) : W u (n + 1) = (List.range (n + 1)).flatMap fun k => (List.range (u.getD k 0)).flatMap fun j => (W u (n - k)).map fun w => w ++ [(k + 1, j)] := by
  have e : W u (n + 1) = step u (tab u n) := by
    show (tab u n ++ [step u (tab u n)]).getD (n + 1) [] = _
    rw [List.getD_eq_getElem?_getD, List.getElem?_append_right (by rw [tab_length]; exact Nat.le_refl _), tab_length, Nat.sub_self]; rfl
  rw [e]
  unfold step
  rw [tab_length]
  have e2 : ∀ k, (tab u n).getD (n + 1 - 1 - k) [] = W u (n - k) := fun k => tab_at u n (by omega)
  simp only [e2]
def good (u : List Nat) (w : List Sym) : Prop := ∀ x ∈ w, 1 ≤ x.1 ∧ x.2 < u.getD (x.1 - 1) 0
theorem tot_append (a b : List Sym) : tot (a ++ b) = tot a + tot b := sumBy_append _ a b
theorem tot_one (x : Sym) : tot [x] = x.1 := Nat.add_zero _
theorem len_le_tot {u : List Nat} : ∀ {w : List Sym}, good u w → w.length ≤ tot w
  | [], _ => Nat.zero_le _
  | x :: w, h => by
    have ih := len_le_tot (w := w) fun y hy => h y (List.mem_cons_of_mem _ hy)
    have := (h x List.mem_cons_self).1
    show w.length + 1 ≤ x.1 + tot w
    omega
theorem mem_W (u : List Nat) : ∀ (n : Nat) (w : List Sym), w ∈ W u n ↔ good u w ∧ tot w = n := by
  intro n
  induction n using Nat.strongRecOn with
  | _ n ih =>
    intro w
    cases n with
    | zero =>
      rw [W_zero, List.mem_singleton]
      constructor
      · rintro rfl; exact ⟨(fun x hx => nomatch hx), rfl⟩
      · rintro ⟨g, t⟩
        have := len_le_tot g
        exact List.length_eq_zero_iff.mp (by omega)
    | succ n =>
      rw [W_succ, List.mem_flatMap]
      constructor
      · rintro ⟨k, hk, h⟩
        rw [List.mem_range] at hk
        obtain ⟨j, hj, h⟩ := List.mem_flatMap.mp h
        rw [List.mem_range] at hj
        obtain ⟨v, hv, rfl⟩ := List.mem_map.mp h
        obtain ⟨g, t⟩ := (ih (n - k) (by omega) v).mp hv
        refine ⟨fun x hx => ?_, ?_⟩
        · rcases List.mem_append.mp hx with hx | hx
          · exact g x hx
          · rw [List.mem_singleton.mp hx]
            exact ⟨by show 1 ≤ k + 1; omega, by show j < u.getD (k + 1 - 1) 0; rw [Nat.add_sub_cancel]; exact hj⟩
        · rw [tot_append, tot_one, t]
          show n - k + (k + 1) = n + 1
          omega
      · rintro ⟨g, t⟩
        rcases List.eq_nil_or_concat w with rfl | ⟨v, x, rfl⟩
        · exact absurd t (by show (0 : Nat) ≠ n + 1; omega)
        · rw [List.concat_eq_append] at *
          obtain ⟨g1, g2⟩ := g x (List.mem_append_right _ List.mem_cons_self)
          rw [tot_append, tot_one] at t
          refine ⟨x.1 - 1, List.mem_range.mpr (by omega), List.mem_flatMap.mpr ⟨x.2, List.mem_range.mpr g2, List.mem_map.mpr ⟨v, ?_, ?_⟩⟩⟩
          · exact (ih _ (by omega) v).mpr ⟨fun y hy => g y (List.mem_append_left _ hy), by omega⟩
          · rw [show x.1 - 1 + 1 = x.1 from by omega]
theorem nodup_W (u : List Nat) : ∀ n : Nat, (W u n).Nodup := by
  intro n
  induction n using Nat.strongRecOn with
  | _ n ih =>
    cases n with
    | zero => rw [W_zero]; exact List.nodup_cons.mpr ⟨(fun h => nomatch h), List.nodup_nil⟩
    | succ n =>
      rw [W_succ]
      have last : ∀ {k j k' j' : Nat} {v v' : List Sym}, v ++ [(k + 1, j)] = v' ++ [(k' + 1, j')] → v = v' ∧ k = k' ∧ j = j' := fun h => by
        have q := List.append_inj' h rfl
        have e := List.cons.inj q.2
        have e1 := Prod.mk.inj e.1
        exact ⟨q.1, by omega, e1.2⟩
      refine List.pairwise_flatMap.mpr ⟨fun k hk => List.pairwise_flatMap.mpr ⟨fun j hj => ?_, ?_⟩, ?_⟩
      · rw [List.pairwise_map]
        rw [List.mem_range] at hk
        exact (ih (n - k) (by omega)).imp fun h e => h (last e).1
      · refine List.pairwise_lt_range.imp fun {a b} hab x hx y hy e => ?_
        obtain ⟨v, _, rfl⟩ := List.mem_map.mp hx
        obtain ⟨v', _, rfl⟩ := List.mem_map.mp hy
        have := (last e).2.2
        omega
      · refine List.pairwise_lt_range.imp fun {a b} hab x hx y hy e => ?_
        obtain ⟨j, _, hx⟩ := List.mem_flatMap.mp hx
        obtain ⟨j', _, hy⟩ := List.mem_flatMap.mp hy
        obtain ⟨v, _, rfl⟩ := List.mem_map.mp hx
        obtain ⟨v', _, rfl⟩ := List.mem_map.mp hy
        have := (last e).2.1
        omega
/-- the sum of the first lengths -/
def A (u : List Nat) (n : Nat) : Nat := sumBy first (W u n)
theorem A_succ (u : List Nat) (m : Nat) : A u (m + 1) = (m + 1) * u.getD m 0 + sumBy (fun k => u.getD k 0 * A u (m - k)) (List.range m) := by
  unfold A
  rw [W_succ, sumBy_flat, List.range_succ, sumBy_append, Nat.add_comm]
  congr 1
  · rw [sumBy_cons, sumBy_nil, Nat.add_zero, sumBy_flat, Nat.sub_self, W_zero]
    have e : ∀ j ∈ List.range (u.getD m 0), sumBy first (([[]] : List (List Sym)).map fun w => w ++ [(m + 1, j)]) = m + 1 := fun j _ => Nat.add_zero _
    rw [sumBy_congr e, sumBy_const, List.length_range, Nat.mul_comm]
  · refine sumBy_congr fun k hk => ?_
    rw [List.mem_range] at hk
    rw [sumBy_flat]
    have e : ∀ j ∈ List.range (u.getD k 0), sumBy first ((W u (m - k)).map fun w => w ++ [(k + 1, j)]) = sumBy first (W u (m - k)) := fun j _ => by
      rw [sumBy_map]
      refine sumBy_congr fun w hw => ?_
      cases w with
      | nil =>
        have := ((mem_W u _ _).mp hw).2
        exact absurd this (by show (0 : Nat) ≠ m - k; omega)
      | cons x w => rfl
    rw [sumBy_congr e, sumBy_const, List.length_range]
theorem tot_pw (v : List Sym) : ∀ e, tot (pw v e) = e * tot v
  | 0 => by rw [Nat.zero_mul]; rfl
  | e + 1 => by rw [pw_succ, tot_append, tot_pw v e, Nat.succ_mul]; omega
theorem mem_pw {v : List Sym} {x : Sym} : ∀ e, x ∈ pw v e → x ∈ v
  | 0, h => nomatch h
  | e + 1, h => by
    rw [pw_succ] at h
    exact (List.mem_append.mp h).elim id (mem_pw e)
theorem first_pw {v : List Sym} (hv : v ≠ []) (e : Nat) : first (pw v (e + 1)) = first v := by
  rw [pw_succ]
  cases v with
  | nil => exact absurd rfl hv
  | cons x v => rfl
open Classical in
noncomputable def primB (w : List Sym) : Bool := decide (Prim w)
open Classical in
theorem primB_iff {w : List Sym} : primB w = true ↔ Prim w := by unfold primB; exact decide_eq_true_iff
/-- those that are no smaller ones, repeated -/
noncomputable def P (u : List Nat) (n : Nat) : List (List Sym) := (W u n).filter primB
theorem mem_P {u : List Nat} {n : Nat} {w : List Sym} : w ∈ P u n ↔ good u w ∧ tot w = n ∧ Prim w := by
  unfold P
  rw [List.mem_filter, mem_W, primB_iff, and_assoc]
theorem nodup_P (u : List Nat) (n : Nat) : (P u n).Nodup := (nodup_W u n).filter _
def divs (n : Nat) : List Nat := (List.range' 1 n).filter fun d => decide (n % d = 0)
theorem mem_divs {n d : Nat} : d ∈ divs n ↔ 1 ≤ d ∧ d ≤ n ∧ n % d = 0 := by
  unfold divs
  rw [List.mem_filter, List.mem_range'_1, decide_eq_true_eq]
  constructor
  · rintro ⟨h1, h2⟩; exact ⟨h1.1, by omega, h2⟩
  · rintro ⟨h1, h2, h3⟩; exact ⟨⟨h1, by omega⟩, h3⟩
theorem tot_pos {u : List Nat} {w : List Sym} (g : good u w) (h : w ≠ []) : 0 < tot w := Nat.lt_of_lt_of_le (List.length_pos_iff.mpr h) (len_le_tot g)
theorem A_split (u : List Nat) (n : Nat) (hn : 0 < n) : A u n = sumBy (fun d => sumBy first (P u d)) (divs n) := by
  have key : ∀ w ∈ W u n, w ≠ [] ∧ good u (w.take (per w)) ∧ Prim (w.take (per w)) ∧ pw (w.take (per w)) (w.length / per w) = w ∧ (w.length / per w) * tot (w.take (per w)) = n := fun w hw => by
    obtain ⟨g, t⟩ := (mem_W u n w).mp hw
    have ne : w ≠ [] := fun e => by rw [e] at t; exact absurd t (by show (0 : Nat) ≠ n; omega)
    obtain ⟨d1, d2⟩ := per_dvd ne
    refine ⟨ne, fun x hx => g x (List.mem_of_mem_take hx), (root_prim ne).1, d2, ?_⟩
    rw [← tot_pw, d2, t]
  have gd : ∀ w ∈ W u n, tot (w.take (per w)) ∈ divs n := fun w hw => by
    obtain ⟨ne, g, pr, e1, e2⟩ := key w hw
    have p := tot_pos g pr.1
    have dv : tot (w.take (per w)) ∣ n := ⟨_, by rw [Nat.mul_comm]; exact e2.symm⟩
    exact mem_divs.mpr ⟨p, Nat.le_of_dvd hn dv, Nat.mod_eq_zero_of_dvd dv⟩
  unfold A
  rw [sum_split (fun w => tot (w.take (per w))) first ((List.nodup_range' ..).filter _ : (divs n).Nodup) gd]
  refine sumBy_congr fun d hd => ?_
  obtain ⟨h1, h2, h3⟩ := mem_divs.mp hd
  obtain ⟨e, he⟩ := Nat.dvd_of_mod_eq_zero h3
  have e0 : 0 < e := Nat.pos_of_ne_zero fun z => by rw [z] at he; omega
  obtain ⟨e', rfl⟩ : ∃ e', e = e' + 1 := ⟨e - 1, by omega⟩
  have pm : ((W u n).filter fun w => decide (tot (w.take (per w)) = d)).Perm ((P u d).map fun v => pw v (e' + 1)) := by
    refine perm_of ((nodup_W u n).filter _) ?_ fun w => ?_
    · refine List.pairwise_map.mpr ((nodup_P u d).imp_of_mem fun {a b} ha hb hab z => hab ?_)
      have pa := (mem_P.mp ha).2.2
      have pb := (mem_P.mp hb).2.2
      have l1 := per_pw pa e'
      have l2 := per_pw pb e'
      rw [z] at l1
      have hl : a.length = b.length := by omega
      have t := congrArg (List.take a.length) z
      rw [pw_succ, pw_succ, List.take_left, hl, List.take_left] at t
      exact t
    · rw [List.mem_filter, decide_eq_true_eq, List.mem_map]
      constructor
      · rintro ⟨hw, ht⟩
        obtain ⟨ne, g, pr, e1, e2⟩ := key w hw
        refine ⟨w.take (per w), mem_P.mpr ⟨g, ht, pr⟩, ?_⟩
        have : w.length / per w = e' + 1 := by
          rw [ht, he, Nat.mul_comm d] at e2
          exact Nat.eq_of_mul_eq_mul_right (by omega) e2
        rw [← this]; exact e1
      · rintro ⟨v, hv, rfl⟩
        obtain ⟨g, t, pr⟩ := mem_P.mp hv
        refine ⟨(mem_W u n _).mpr ⟨fun x hx => g x (mem_pw _ hx), by rw [tot_pw, t, he, Nat.mul_comm]⟩, ?_⟩
        rw [per_pw pr, pw_succ, List.take_left]; exact t
  rw [sumBy_perm first pm, sumBy_map]
  exact sumBy_congr fun v hv => first_pw (mem_P.mp hv).2.2.1 e'
/-- those of so many records -/
noncomputable def Pm (u : List Nat) (d m : Nat) : List (List Sym) := (P u d).filter fun w => decide (w.length = m)
theorem mem_Pm {u : List Nat} {d m : Nat} {w : List Sym} : w ∈ Pm u d m ↔ (good u w ∧ tot w = d ∧ Prim w) ∧ w.length = m := by
  unfold Pm
  rw [List.mem_filter, mem_P, decide_eq_true_eq]
/-- the number of rings -/
noncomputable def q (u : List Nat) (d : Nat) : Nat := sumBy (fun m => (Pm u d m).length / m) (List.range' 1 d)
theorem tot_r1 (w : List Sym) : tot (r1 w) = tot w := by
  cases w with
  | nil => rfl
  | cons x l =>
    show tot (l ++ [x]) = x.1 + tot l
    rw [tot_append, tot_one, Nat.add_comm]
theorem Pm_r1 {u : List Nat} {d m : Nat} {w : List Sym} (h : w ∈ Pm u d m) : r1 w ∈ Pm u d m := by
  obtain ⟨⟨g, t, p⟩, l⟩ := mem_Pm.mp h
  exact mem_Pm.mpr ⟨⟨fun x hx => g x (r1_mem.mp hx), by rw [tot_r1, t], prim_r1 p⟩, by rw [r1_len, l]⟩
theorem Pm_dvd (u : List Nat) (d m : Nat) (hm : 0 < m) : m ∣ (Pm u d m).length := by
  refine circles (f := r1) hm _ (Nat.le_refl _) ((nodup_P u d).filter _) (fun x hx => Pm_r1 hx) (fun x hx => ?_) fun x hx i h0 h1 e => ?_
  · have l := (mem_Pm.mp hx).2
    rw [← l]; exact it_len x
  · obtain ⟨⟨_, _, p⟩, l⟩ := mem_Pm.mp hx
    have := per_least h0 e
    rw [p.2] at this
    omega
theorem sum_at : ∀ w : List Sym, sumBy (fun i => (w.getD i (0, 0)).1) (List.range w.length) = tot w
  | [] => rfl
  | x :: w => by
    rw [List.length_cons, List.range_succ_eq_map, sumBy_cons, sumBy_map]
    show x.1 + sumBy (fun i => (w.getD i (0, 0)).1) (List.range w.length) = x.1 + tot w
    rw [sum_at w]
theorem first_turn {w : List Sym} {i : Nat} (h : i < w.length) : first (it r1 i w) = (w.getD i (0, 0)).1 := by
  rw [it_r1 i w (Nat.le_of_lt h), List.drop_eq_getElem_cons h, List.getD_eq_getElem?_getD, List.getElem?_eq_getElem h]; rfl
theorem Pm_first (u : List Nat) (d m : Nat) (hm : 0 < m) : sumBy first (Pm u d m) = d * ((Pm u d m).length / m) := by
  have turn : ∀ i, sumBy (fun w => first (it r1 i w)) (Pm u d m) = sumBy first (Pm u d m) := fun i => by
    rw [← sumBy_map]
    refine sumBy_perm first (perm_of ?_ ((nodup_P u d).filter _) fun w => ?_)
    · exact List.pairwise_map.mpr (((nodup_P u d).filter _).imp fun h e => h (it_r1_inj i e))
    · rw [List.mem_map]
      constructor
      · rintro ⟨v, hv, rfl⟩
        exact it_mem (fun x hx => Pm_r1 hx) i hv
      · intro hw
        have l := (mem_Pm.mp hw).2
        have back : ∀ k, it r1 (k * m) w = w := it_mul (by rw [← l]; exact it_len w)
        refine ⟨it r1 (i * m - i) w, it_mem (fun x hx => Pm_r1 hx) _ hw, ?_⟩
        rw [← it_add, show i * m - i + i = i * m from Nat.sub_add_cancel (Nat.le_mul_of_pos_right i hm), back]
  have e : sumBy (fun i => sumBy (fun w => first (it r1 i w)) (Pm u d m)) (List.range m) = (Pm u d m).length * d := by
    rw [sumBy_swap, ← sumBy_const]
    refine sumBy_congr fun w hw => ?_
    obtain ⟨⟨_, t, _⟩, l⟩ := mem_Pm.mp hw
    have : sumBy (fun i => first (it r1 i w)) (List.range m) = sumBy (fun i => (w.getD i (0, 0)).1) (List.range w.length) := by
      rw [l]
      exact sumBy_congr fun i hi => first_turn (by rw [l]; exact List.mem_range.mp hi)
    rw [this, sum_at, t]
  rw [sumBy_congr fun i _ => turn i, sumBy_const, List.length_range] at e
  obtain ⟨c, hc⟩ := Pm_dvd u d m hm
  rw [hc] at e ⊢
  rw [Nat.mul_div_cancel_left _ hm]
  have : m * sumBy first (Pm u d m) = m * (d * c) := by rw [e, Nat.mul_assoc, Nat.mul_comm c d]
  exact Nat.eq_of_mul_eq_mul_left hm this
theorem P_first (u : List Nat) (d : Nat) : sumBy first (P u d) = d * q u d := by
  have h : ∀ w ∈ P u d, w.length ∈ List.range' 1 d := fun w hw => by
    obtain ⟨g, t, p⟩ := mem_P.mp hw
    have l1 := len_le_tot g
    have l2 := List.length_pos_iff.mpr p.1
    rw [List.mem_range'_1]; omega
  rw [sum_split List.length first (List.nodup_range' ..) h]
  unfold q
  rw [← sumBy_mul]
  refine sumBy_congr fun m hm => ?_
  rw [List.mem_range'_1] at hm
  exact Pm_first u d m (by omega)
/-- the sums are those over the divisors -/
theorem A_rings (u : List Nat) (n : Nat) (hn : 0 < n) : A u n = sumBy (fun d => d * q u d) (divs n) := by
  rw [A_split u n hn]
  exact sumBy_congr fun d _ => P_first u d
/-- the numbers that the sums give are the numbers of rings -/
theorem rings_are (u : List Nat) : ∀ N, K41m.rings ((List.range' 1 N).map fun n => (A u n : Int)) = (List.range' 1 N).map fun n => (q u n : Int)
  | 0 => rfl
  | N + 1 => by
    have ih := rings_are u N
    rw [List.range'_1_concat, List.map_append, List.map_append]
    show K41m.rings (_ ++ [((A u (1 + N) : Nat) : Int)]) = _
    rw [K41m.rings_snoc, ih]
    unfold K41m.ringStep
    congr 1
    have hl : ((List.range' 1 N).map fun n => (q u n : Int)).length = N := by rw [List.length_map, List.length_range']
    have er : K41m.rep ((List.range' 1 N).map fun n => (q u n : Int)) = ((sumBy (fun d => d * q u d) ((List.range' 1 N).filter fun p => decide ((N + 1) % p = 0)) : Nat) : Int) := by
      unfold K41m.rep
      rw [hl]
      have g : ∀ l : List Nat, (∀ p ∈ l, 1 ≤ p ∧ p ≤ N) → (l.map fun p : Nat => (p : Int) * ((List.range' 1 N).map fun n => (q u n : Int)).getD (p - 1) 0).sum = ((sumBy (fun d => d * q u d) l : Nat) : Int) := by
        intro l
        induction l with
        | nil => intro _; rfl
        | cons p l ihl =>
          intro hp
          obtain ⟨p1, p2⟩ := hp p List.mem_cons_self
          rw [List.map_cons, List.sum_cons, ihl fun x hx => hp x (List.mem_cons_of_mem _ hx), sumBy_cons, Int.natCast_add, Int.natCast_mul]
          congr 2
          rw [List.getD_eq_getElem?_getD, List.getElem?_map, List.getElem?_range' (by omega)]
          show (q u (1 + 1 * (p - 1)) : Int) = _
          rw [show 1 + 1 * (p - 1) = p from by omega]
      exact g _ fun p hp => by
        have := (List.mem_filter.mp hp).1
        rw [List.mem_range'_1] at this
        omega
    have ea : A u (1 + N) = sumBy (fun d => d * q u d) ((List.range' 1 N).filter fun p => decide ((N + 1) % p = 0)) + (N + 1) * q u (N + 1) := by
      rw [A_rings u (1 + N) (by omega), Nat.add_comm 1 N]
      unfold divs
      rw [List.range'_1_concat, List.filter_append, sumBy_append]
      congr 1
      rw [List.filter_cons, if_pos (by rw [Nat.add_comm 1 N, Nat.mod_self]; rfl), List.filter_nil, sumBy_cons, sumBy_nil, Nat.add_zero, Nat.add_comm 1 N]
    rw [er, ea, hl, Int.natCast_add]
    show [_] = [((q u (1 + N) : Nat) : Int)]
    congr 1
    rw [Int.add_comm, Int.add_sub_cancel, Int.natCast_mul, Int.mul_comm, Int.mul_ediv_cancel _ (by omega), Nat.add_comm 1 N]
theorem good_mono {u v : List Nat} (h : ∀ k, u.getD k 0 ≤ v.getD k 0) {w : List Sym} (g : good u w) : good v w := fun x hx => ⟨(g x hx).1, Nat.lt_of_lt_of_le (g x hx).2 (h _)⟩
open Classical in
theorem q_mono {u v : List Nat} (h : ∀ k, u.getD k 0 ≤ v.getD k 0) (d : Nat) : q u d ≤ q v d := by
  unfold q
  have le : ∀ m ∈ List.range' 1 d, (Pm u d m).length / m ≤ (Pm v d m).length / m := fun m _ => by
    refine Nat.div_le_div_right ?_
    have pm : (Pm u d m).Perm ((Pm v d m).filter fun w => decide (good u w)) := by
      refine perm_of ((nodup_P u d).filter _) (((nodup_P v d).filter _).filter _) fun w => ?_
      rw [List.mem_filter, decide_eq_true_eq, mem_Pm, mem_Pm]
      constructor
      · rintro ⟨⟨g, t, p⟩, l⟩; exact ⟨⟨⟨good_mono h g, t, p⟩, l⟩, g⟩
      · rintro ⟨⟨⟨_, t, p⟩, l⟩, g⟩; exact ⟨⟨g, t, p⟩, l⟩
    rw [pm.length_eq]
    exact List.length_filter_le _ _
  have mono : ∀ (l : List Nat) (f g : Nat → Nat), (∀ x ∈ l, f x ≤ g x) → sumBy f l ≤ sumBy g l := by
    intro l f g
    induction l with
    | nil => intro _; exact Nat.le_refl _
    | cons a l ih =>
      intro hf
      rw [sumBy_cons, sumBy_cons]
      have := hf a List.mem_cons_self
      have := ih fun x hx => hf x (List.mem_cons_of_mem _ hx)
      omega
  exact mono _ _ _ le
theorem q_ge (u : List Nat) (d : Nat) (hd : 0 < d) : u.getD (d - 1) 0 ≤ q u d := by
  obtain ⟨n, rfl⟩ : ∃ n, d = n + 1 := ⟨d - 1, by omega⟩
  rw [Nat.add_sub_cancel]
  unfold q
  rw [List.range'_succ, sumBy_cons, Nat.div_one]
  refine Nat.le_trans ?_ (Nat.le_add_right _ _)
  have pm : (((List.range (u.getD n 0)).map fun j => [((n + 1, j) : Sym)])).Perm (Pm u (n + 1) 1) := by
    refine perm_of ?_ ((nodup_P u _).filter _) fun w => ?_
    · refine List.pairwise_map.mpr (List.nodup_range.imp fun {a b} h e => h ?_)
      exact (Prod.mk.inj (List.cons.inj e).1).2
    · rw [List.mem_map, mem_Pm]
      constructor
      · rintro ⟨j, hj, rfl⟩
        rw [List.mem_range] at hj
        refine ⟨⟨fun x hx => ?_, rfl, ⟨by simp, ?_⟩⟩, rfl⟩
        · rw [List.mem_singleton.mp hx]
          exact ⟨by show 1 ≤ n + 1; omega, by show j < u.getD (n + 1 - 1) 0; rw [Nat.add_sub_cancel]; exact hj⟩
        · have := per_le (w := [((n + 1, j) : Sym)]) (by simp)
          have := per_pos [((n + 1, j) : Sym)]
          show per _ = 1
          have e : ([((n + 1, j) : Sym)]).length = 1 := rfl
          omega
      · rintro ⟨⟨g, t, _⟩, l⟩
        obtain ⟨x, rfl⟩ := List.length_eq_one_iff.mp l
        rw [tot_one] at t
        have gx := (g x List.mem_cons_self).2
        rw [t, Nat.add_sub_cancel] at gx
        exact ⟨x.2, List.mem_range.mpr gx, by rw [← t]⟩
  have := pm.length_eq
  rw [List.length_map, List.length_range] at this
  omega
end Rng

set_option linter.all false
/-! rings of letters are rings of records of as many words of one letter; where counting bars -/
namespace Rng
theorem A_one (m : Nat) : ∀ n, A [m] (n + 1) = m ^ (n + 1) := by
  intro n
  induction n using Nat.strongRecOn with
  | _ n ih =>
    rw [A_succ]
    cases n with
    | zero =>
      show 1 * m + 0 = m ^ 1
      rw [Nat.one_mul, Nat.pow_one]; rfl
    | succ n =>
      have e0 : ([m] : List Nat).getD (n + 1) 0 = 0 := rfl
      rw [e0, Nat.mul_zero, Nat.zero_add, List.range_succ_eq_map, sumBy_cons, sumBy_map]
      have e1 : sumBy (fun x => ([m] : List Nat).getD (Nat.succ x) 0 * A [m] (n + 1 - Nat.succ x)) (List.range n) = sumBy (fun _ => 0) (List.range n) := sumBy_congr fun k _ => by
        show 0 * _ = 0
        rw [Nat.zero_mul]
      rw [e1, sumBy_const, Nat.mul_zero, Nat.add_zero]
      show m * A [m] (n + 1 - 0) = _
      rw [Nat.sub_zero, ih n (by omega), Nat.pow_succ m (n + 1), Nat.mul_comm]
theorem pows_are (m : Nat) : ∀ N, K41m.pows m N = (List.range' 1 N).map fun n => (A [m] n : Int)
  | 0 => rfl
  | N + 1 => by
    rw [K41m.pows_succ, pows_are m N, List.range'_1_concat, List.map_append]
    congr 1
    show [((m ^ (N + 1) : Nat) : Int)] = [((A [m] (1 + N) : Nat) : Int)]
    rw [Nat.add_comm 1 N, A_one]
/-- the numbers of rings of letters -/
theorem letters_are (m N : Nat) : K41m.rings (K41m.pows m N) = (List.range' 1 N).map fun n => (q [m] n : Int) := by rw [pows_are, rings_are]
theorem at_range (f : Nat → Int) {N n : Nat} (h1 : 1 ≤ n) (h2 : n ≤ N) : ((List.range' 1 N).map f)[n - 1]? = some (f n) := by
  rw [List.getElem?_map, List.getElem?_range' (by omega)]
  show some (f (1 + 1 * (n - 1))) = _
  rw [show 1 + 1 * (n - 1) = n from by omega]
/-- the least length at which there are too many rings of records -/
noncomputable def bar (m : Nat) (u : List Nat) : Option Nat := (List.range' 1 u.length).find? fun n => decide (q [m] n < q u n)
theorem find_le {l : List Nat} (hl : l.Pairwise (· < ·)) {p p' : Nat → Bool} (h : ∀ n ∈ l, p n = true → p' n = true) : ∀ {b}, l.find? p = some b → ∃ b', l.find? p' = some b' ∧ b' ≤ b := by
  induction l with
  | nil => intro b hb; cases hb
  | cons a l ih =>
    intro b hb
    rw [List.pairwise_cons] at hl
    rw [List.find?_cons] at hb ⊢
    cases ha' : p' a with
    | true =>
      refine ⟨a, rfl, ?_⟩
      cases ha : p a with
      | true => rw [ha] at hb; cases hb; exact Nat.le_refl _
      | false =>
        rw [ha] at hb
        exact Nat.le_of_lt (hl.1 b (List.mem_of_find?_eq_some hb))
    | false =>
      have ha : p a = false := by
        cases e : p a with
        | false => rfl
        | true => rw [h a List.mem_cons_self e] at ha'; cases ha'
      rw [ha] at hb
      exact ih hl.2 (fun n hn => h n (List.mem_cons_of_mem _ hn)) hb
theorem find_none_of {l : List Nat} {p p' : Nat → Bool} (h : ∀ n ∈ l, p n = true → p' n = true) (hn : l.find? p' = none) : l.find? p = none := by
  rw [List.find?_eq_none] at hn ⊢
  exact fun n hm z => hn n hm (h n hm z)
/-- a length for comparing -/
def far : Option Nat → Nat
  | none => 99
  | some n => n
theorem far_le {l : List Nat} (hl : l.Pairwise (· < ·)) (hb : ∀ n ∈ l, n ≤ 99) {p p' : Nat → Bool} (h : ∀ n ∈ l, p n = true → p' n = true) : far (l.find? p') ≤ far (l.find? p) := by
  cases e : l.find? p with
  | none =>
    cases e' : l.find? p' with
    | none => exact Nat.le_refl _
    | some b => exact hb b (List.mem_of_find?_eq_some e')
  | some b =>
    obtain ⟨b', e', hle⟩ := find_le hl h e
    rw [e']; exact hle
theorem bar_letters {m m' : Nat} (h : m ≤ m') (u : List Nat) (hu : u.length ≤ 99) : far (bar m u) ≤ far (bar m' u) := by
  refine far_le List.pairwise_lt_range' (fun n hn => by rw [List.mem_range'_1] at hn; omega) fun n _ hp => ?_
  rw [decide_eq_true_eq] at hp ⊢
  have := q_mono (u := [m]) (v := [m']) (fun k => by cases k with | zero => exact h | succ k => exact Nat.le_refl _) n
  omega
theorem bar_words {m : Nat} {u v : List Nat} (hl : u.length = v.length) (h : ∀ k, u.getD k 0 ≤ v.getD k 0) (hu : u.length ≤ 99) : far (bar m v) ≤ far (bar m u) := by
  unfold bar
  rw [← hl]
  refine far_le List.pairwise_lt_range' (fun n hn => by rw [List.mem_range'_1] at hn; omega) fun n _ hp => ?_
  rw [decide_eq_true_eq] at hp ⊢
  have := q_mono h n
  omega
end Rng

set_option Elab.async false
set_option linter.all false
set_option maxRecDepth 100000
set_option maxHeartbeats 4000000
/-! the least of a list of alike data: one of them. -/
namespace Ami
open PySem PySem.Spec PyProof.Rows L2
theorem vals_at : ∀ {vs : List V} {us : List Value} {i : Nat} {u : Value}, Vals vs us → us[i]? = some u → ∃ v, vs[i]? = some v ∧ RelV v u
  | _, _, _, _, .nil, e => nomatch e
  | _, _, 0, _, .cons r t, e => by cases e; exact ⟨_, rfl, r⟩
  | _, _, i + 1, _, .cons r t, e => vals_at (i := i) t e
section
variable {X : Cx}
def rMinD (K : PySem.W.Frag) : List V → Hp → VK → Prop := fun vs H Q => ∃ (a : Addr) (xs : List V) (ds : List PyData), vs = [V.ref a] ∧ SqL K H a xs ∧ DpAll K H xs ds ∧ ds ≠ [] ∧ PySem.W.AlikeAll ds ∧ PyData.depthAll ds ≤ 50 ∧ ∀ v, v ∈ xs → Q v H
theorem cr_minD (hc : X.calm = true) (hu : X.A.units + 64 < cLine) : CallR X (.builtin "min") (rMinD X.K) := by
  intro pins s σ H vs us Q I r h
  obtain ⟨a, xs, ds, rfl, hs, hd, hne, hal, hdep, q⟩ := h
  obtain ⟨its, rv, hl, _⟩ := I.list hs
  obtain ⟨as, hr⟩ := Dp.readsAll I ds xs its hd rv
  rw [Vals.ref1 r]
  cases ds with
  | nil => exact absurd rfl hne
  | cons x ds =>
    refine PySem.W.min_list_data (vs := its.toArray) (I.ok.hd hc) hl.isList hr hal (by omega) fun i v h' tk bs hv _ hk => ?_
    obtain ⟨w, hw, rw'⟩ := vals_at rv (by simpa using hv)
    exact ⟨w, H, I.kept hk, rw', q w (List.mem_of_getElem? hw)⟩
end
end Ami

set_option Elab.async false
set_option linter.all false
set_option maxRecDepth 100000
set_option maxHeartbeats 4000000
/-! list(x) of a text. -/
namespace Ami
open PySem PySem.Spec PyProof.Rows L2
theorem vals_by : ∀ {ys : List V} {us : List Value}, ys.length = us.length → (∀ (j : Nat) (y : V) (u : Value), ys[j]? = some y → us[j]? = some u → RelV y u) → Vals ys us
  | [], [], _, _ => .nil
  | y :: ys, u :: us, hl, h => .cons (h 0 y u rfl rfl) (vals_by (Nat.succ.inj hl) fun j a b e1 e2 => h (j + 1) a b e1 e2)
section
variable {X : Cx}
theorem call_list_txt (hc : X.calm = true) : CallR X (.type "list") (fun xs H Q => ∃ z : Str, xs = [.str z] ∧ z.cps.size ≤ sizeLine ∧ ∀ l, H l = none → Q (.ref l) (upd H l (.lst (z.cps.toList.map fun c => V.str ⟨#[c]⟩)))) := by
  intro pins s σ H xs us Q I r h
  obtain ⟨z, rfl, hz, q⟩ := h
  obtain ⟨u, rfl, rx⟩ := vals1 r
  obtain ⟨t, rfl⟩ := rx
  refine call_list_str (I.ok.hd hc) z t (hn := hz) fun h' tk acc' c' hk hS hacc => ?_
  refine ⟨.ref s.heap.objs.size, _, I.laid (t' := tk) (o := .lst (z.cps.toList.map fun c => V.str ⟨#[c]⟩)) hk (Nat.le_refl _) ?_, rfl, q _ (I.hok.fresh (Nat.le_refl _))⟩
  refine ⟨by rw [List.length_map, Array.length_toList]; exact hz, acc'.toList, c', vals_by (by rw [List.length_map, Array.length_toList, Array.length_toList]; exact hacc.1.symm) fun j y u e1 e2 => ?_, by simpa using hS⟩
  obtain ⟨c, t', e3, rfl⟩ := hacc.2 j u (by rw [← Array.getElem?_toList]; exact e2)
  rw [List.getElem?_map, Array.getElem?_toList, e3] at e1
  cases e1
  exact ⟨t', rfl⟩
end
end Ami

set_option Elab.async false
set_option linter.all false
set_option maxRecDepth 100000
set_option maxHeartbeats 2000000
/-! generators that sleep and that a run does not wake stay as they are: what is proved of the run where none of them can wake holds of it as it is -/
namespace Ami
open PySem PySem.Spec PyProof.Rows L2 GenW
open Sem (wp)

/-- the same to look at, but it cannot be woken -/
def numb : GenState → GenState
  | .suspended _ l c p fs cl => .suspended (fun _ => .unsupported "asleep") l c p fs cl
  | x => x
def Sleeps : GenState → Bool
  | .suspended .. => true
  | _ => false
theorem numb_bare {x : GenState} (h : x.bare = true) : (numb x).bare = true := by cases x <;> exact h
theorem numb_seen (x : GenState) : (numb x).seen = x.seen := by cases x <;> rfl
theorem numb_of {x : GenState} (h : Sleeps x = false) : numb x = x := by cases x <;> first | rfl | cases h
def asleep (G : Array GenState) (i : Nat) : Bool := match G[i]? with
  | some y => Sleeps y
  | none => false
/-- the sleepers of G put back -/
def putBack (G : Array GenState) (i : Nat) (x : GenState) : GenState := if asleep G i = true then (G[i]?).getD x else x
def lift (G : Array GenState) (s : Shared) : Shared := { s with gens := s.gens.mapIdx (putBack G) }
/-- none of the sleepers of G can wake; all else that sleeps came to sleep here -/
structure Numb (G : Array GenState) (s : Shared) : Prop where
  size : G.size ≤ s.gens.size
  still : ∀ (i : Nat) (y : GenState), G[i]? = some y → Sleeps y = true → s.gens[i]? = some (numb y)
  nice : ∀ (i : Nat) k l c p fs cl, asleep G i = false → s.gens[i]? = some (.suspended k l c p fs cl) → splitAtGen fs = none
def EndNice : End → Prop
  | .susp _ _ _ _ _ _ fs => splitAtGen fs = none
  | .ret _ => True
section
variable {G : Array GenState} {s : Shared} {n : Nat} {x y : GenState}
theorem lift_at (i : Nat) : (lift G s).gens[i]? = (s.gens[i]?).map (putBack G i) := by
  show (s.gens.mapIdx (putBack G))[i]? = _
  rw [Array.getElem?_mapIdx]
theorem lift_other (h : asleep G n = false) : (lift G s).gens[n]? = s.gens[n]? := by
  rw [lift_at]
  have : putBack G n = id := by funext z; unfold putBack; rw [h]; rfl
  rw [this, Option.map_id, id]
theorem lift_size : (lift G s).gens.size = s.gens.size := by
  show (s.gens.mapIdx (putBack G)).size = _
  rw [Array.size_mapIdx]
theorem lift_set (h : asleep G n = false) : lift G (s.setGen n x) = (lift G s).setGen n x := by
  show ({ s with gens := (s.gens.setIfInBounds n x).mapIdx (putBack G) } : Shared) = { s with gens := (s.gens.mapIdx (putBack G)).setIfInBounds n x }
  have : (s.gens.setIfInBounds n x).mapIdx (putBack G) = (s.gens.mapIdx (putBack G)).setIfInBounds n x := by
    apply Array.ext_getElem?
    intro i
    rw [Array.getElem?_mapIdx]
    by_cases hi : n = i
    · subst hi
      rw [Array.getElem?_setIfInBounds, Array.getElem?_setIfInBounds, if_pos rfl, if_pos rfl, Array.size_mapIdx]
      have e : putBack G n x = x := by unfold putBack; rw [h]; rfl
      by_cases hb : n < s.gens.size
      · rw [if_pos hb, Option.map_some, e]
      · rw [if_neg hb]; rfl
    · rw [Array.getElem?_setIfInBounds_ne hi, Array.getElem?_setIfInBounds_ne hi, Array.getElem?_mapIdx]
  rw [this]
theorem asleep_beyond (h : G.size ≤ n) : asleep G n = false := by
  unfold asleep
  rw [Array.getElem?_eq_none h]
theorem lift_push (h : G.size ≤ s.gens.size) : lift G { s with gens := s.gens.push x } = { lift G s with gens := (lift G s).gens.push x } := by
  show ({ s with gens := (s.gens.push x).mapIdx (putBack G) } : Shared) = { s with gens := (s.gens.mapIdx (putBack G)).push x }
  have : (s.gens.push x).mapIdx (putBack G) = (s.gens.mapIdx (putBack G)).push x := by
    rw [Array.mapIdx_push]
    have e : putBack G s.gens.size x = x := by unfold putBack; rw [asleep_beyond h]; rfl
    rw [e]
  rw [this]
theorem asleep_some (h : asleep G n = true) : ∃ y, G[n]? = some y ∧ Sleeps y = true := by
  unfold asleep at h
  split at h
  · rename_i y e; exact ⟨y, e, h⟩
  · cases h
theorem Numb.at (N : Numb G s) (h : asleep G n = true) : ∃ y, G[n]? = some y ∧ Sleeps y = true ∧ s.gens[n]? = some (numb y) ∧ (lift G s).gens[n]? = some y := by
  obtain ⟨y, e, hs⟩ := asleep_some h
  refine ⟨y, e, hs, N.still n y e hs, ?_⟩
  rw [lift_at, N.still n y e hs, Option.map_some]
  unfold putBack
  rw [if_pos h, e]; rfl
theorem Numb.awake (N : Numb G s) (h : asleep G n = true) (hg : s.gens[n]? = some x) (hx : Sleeps x = false) : False := by
  obtain ⟨y, _, hs, e1, _⟩ := N.at h
  rw [hg] at e1
  have e : x = numb y := Option.some.inj e1
  have : Sleeps (numb y) = Sleeps y := by cases y <;> rfl
  rw [e, this, hs] at hx
  cases hx
theorem Numb.set (N : Numb G s) (h : asleep G n = false) (hx : ∀ k l c p fs cl, x = .suspended k l c p fs cl → splitAtGen fs = none) : Numb G (s.setGen n x) where
  size := by rw [setGen_size]; exact N.size
  still := fun i y e hs => by
    have hne : i ≠ n := fun z => by
      subst z
      unfold asleep at h
      rw [e] at h
      have h : Sleeps y = false := h
      rw [hs] at h; cases h
    show (s.gens.setIfInBounds n x)[i]? = _
    rw [Array.getElem?_setIfInBounds_ne (Ne.symm hne)]
    exact N.still i y e hs
  nice := fun i k l c p fs cl hi e => by
    have e : (s.gens.setIfInBounds n x)[i]? = _ := e
    by_cases z : n = i
    · subst z
      rw [Array.getElem?_setIfInBounds, if_pos rfl] at e
      split at e
      · exact hx _ _ _ _ _ _ (Option.some.inj e)
      · cases e
    · rw [Array.getElem?_setIfInBounds_ne z] at e
      exact N.nice i k l c p fs cl hi e
theorem Numb.push (N : Numb G s) {c : Code} : Numb G { s with gens := s.gens.push (.fresh c) } where
  size := by show _ ≤ (s.gens.push _).size; rw [Array.size_push]; exact Nat.le_succ_of_le N.size
  still := fun i y e hs => by
    show (s.gens.push _)[i]? = _
    have hi : i < G.size := (Array.getElem?_eq_some_iff.mp e).1
    rw [Array.getElem?_push, if_neg (by have := N.size; omega)]
    exact N.still i y e hs
  nice := fun i k l c' p fs cl hi e => by
    have e : (s.gens.push _)[i]? = _ := e
    rw [Array.getElem?_push] at e
    split at e
    · cases e
    · exact N.nice i k l c' p fs cl hi e
theorem Numb.same {s' : Shared} (N : Numb G s) (h : s'.gens = s.gens) : Numb G s' := by
  obtain ⟨a, b, c⟩ := N
  exact ⟨by rw [h]; exact a, by rw [h]; exact b, by rw [h]; exact c⟩
theorem endNice_gen {e : End} (h : EndNice e) : ∀ k l c p fs cl, e.genState = .suspended k l c p fs cl → splitAtGen fs = none := by
  intro k l c p fs cl z
  cases e with
  | ret _ => cases z
  | susp v g l' k' c' p' fs' => cases z; exact h
end

section
variable {M : Model}
theorem never_woken {Γ : PySem.Ctx} {p : Pos} {t : Sem PySem.Fin} {fs : List Frame} {s s' : Shared} {e : End} (h : Runs M Γ p t fs s e s') : ∀ {w}, t = .unsupported w → False := by
  induction h <;> intro w hw <;> first
    | (cases hw; done)
    | (rename_i ih1 ih2; exact ih1 hw)
    | (rename_i ih1; exact ih1 hw)

variable {G : Array GenState}
theorem runs_keep {Γ : PySem.Ctx} {p : Pos} {t : Sem PySem.Fin} {fs : List Frame} {s s' : Shared} {e : End} (h : Runs M Γ p t fs s e s') : Numb G s → splitAtGen fs = none →
    Numb G s' ∧ EndNice e ∧ Runs M Γ p t fs (lift G s) e (lift G s') := by
  induction h with
  | done => intro h _; exact ⟨h, trivial, .done⟩
  | raise => intro h _; exact ⟨h, trivial, .raise⟩
  | again hq _ ih => intro h f; obtain ⟨a, n, b⟩ := ih h f; exact ⟨a, n, .again hq b⟩
  | rule _ ih => intro h f; obtain ⟨a, n, b⟩ := ih h f; exact ⟨a, n, .rule b⟩
  | «at» _ ih => intro h f; obtain ⟨a, n, b⟩ := ih h f; exact ⟨a, n, .at b⟩
  | load ho _ ih => intro h f; obtain ⟨a, n, b⟩ := ih h f; exact ⟨a, n, .load ho b⟩
  | update ha _ ih => intro h f; obtain ⟨a, n, b⟩ := ih (h.same rfl) f; exact ⟨a, n, .update ha b⟩
  | loadIfAlive _ ih => intro h f; obtain ⟨a, n, b⟩ := ih h f; exact ⟨a, n, .loadIfAlive b⟩
  | point _ ih => intro h f; obtain ⟨a, n, b⟩ := ih h f; exact ⟨a, n, .point b⟩
  | alloc _ ih => intro h f; obtain ⟨a, n, b⟩ := ih (h.same rfl) f; exact ⟨a, n, .alloc b⟩
  | fresh _ ih => intro h f; obtain ⟨a, n, b⟩ := ih (h.same rfl) f; exact ⟨a, n, .fresh b⟩
  | ask _ ih => intro h f; obtain ⟨a, n, b⟩ := ih h f; exact ⟨a, n, .ask b⟩
  | choose hn _ ih => intro h f; obtain ⟨a, n, b⟩ := ih (h.same rfl) f; exact ⟨a, n, .choose hn b⟩
  | os _ ih => intro h f; obtain ⟨a, n, b⟩ := ih (h.same rfl) f; exact ⟨a, n, .os b⟩
  | handled _ ih => intro h f; obtain ⟨a, n, b⟩ := ih h f; exact ⟨a, n, .handled b⟩
  | @genState n _ _ _ _ _ _ _ hg _ ih =>
    intro h f
    obtain ⟨a, m, b⟩ := ih h f
    refine ⟨a, m, ?_⟩
    cases hn : asleep G n with
    | true =>
      obtain ⟨y, _, _, e1, e2⟩ := h.at hn
      rw [e1] at hg
      cases hg
      rw [numb_seen] at b
      exact .genState e2 b
    | false => exact .genState ((lift_other hn).trans hg) b
  | stack _ ih => intro h f; obtain ⟨a, n, b⟩ := ih h f; exact ⟨a, n, .stack b⟩
  | thread _ ih => intro h f; obtain ⟨a, n, b⟩ := ih h f; exact ⟨a, n, .thread b⟩
  | newGen _ ih =>
    intro h f
    obtain ⟨a, n, b⟩ := ih h.push f
    rw [lift_push h.size] at b
    refine ⟨a, n, .newGen ?_⟩
    rw [lift_size]
    exact b
  | call _ _ ih1 ih2 => intro h f; obtain ⟨a, _, b⟩ := ih1 h rfl; obtain ⟨c, n, d⟩ := ih2 a f; exact ⟨c, n, .call b d⟩
  | callSusp _ ih =>
    intro h f
    obtain ⟨a, n, b⟩ := ih h rfl
    have n : splitAtGen _ = none := n
    refine ⟨a, ?_, .callSusp b⟩
    show splitAtGen _ = none
    rw [splitAtGen_append_none _ n]; rfl
  | yield => intro h _; exact ⟨h, rfl, .yield⟩
  | resumeFresh hg _ hq _ ih1 ih2 =>
    intro h f
    have hn : asleep G _ = false := Bool.eq_false_iff.mpr fun z => h.awake z hg rfl
    obtain ⟨a, m, b⟩ := ih1 (h.set hn (fun _ _ _ _ _ _ z => by cases z)) rfl
    obtain ⟨c, m2, d⟩ := ih2 (a.set hn (endNice_gen m)) f
    rw [lift_set hn] at b d
    exact ⟨c, m2, .resumeFresh ((lift_other hn).trans hg) b hq d⟩
  | @resumeSuspended _ _ n _ _ _ _ _ _ _ _ _ _ _ _ _ _ hg hr hq _ ih1 ih2 =>
    intro h f
    cases hn : asleep G n with
    | true =>
      obtain ⟨y, _, hs, e1, _⟩ := h.at hn
      rw [e1] at hg
      cases y with
      | suspended k l c p fs cl =>
        cases hg
        exact (never_woken hr rfl).elim
      | _ => cases hs
    | false =>
      obtain ⟨a, m, b⟩ := ih1 (h.set hn (fun _ _ _ _ _ _ z => by cases z)) (h.nice _ _ _ _ _ _ _ hn hg)
      obtain ⟨c, m2, d⟩ := ih2 (a.set hn (endNice_gen m)) f
      rw [lift_set hn] at b d
      exact ⟨c, m2, .resumeSuspended ((lift_other hn).trans hg) b hq d⟩
  | resumeJustStarted hg hv _ ih =>
    intro h f
    obtain ⟨a, m, b⟩ := ih h f
    have hn : asleep G _ = false := Bool.eq_false_iff.mpr fun z => h.awake z hg rfl
    exact ⟨a, m, .resumeJustStarted ((lift_other hn).trans hg) hv b⟩
  | resumeThrowFresh hg _ ih =>
    intro h f
    have hn : asleep G _ = false := Bool.eq_false_iff.mpr fun z => h.awake z hg rfl
    obtain ⟨a, m, b⟩ := ih (h.set hn (fun _ _ _ _ _ _ z => by cases z)) f
    rw [lift_set hn] at b
    exact ⟨a, m, .resumeThrowFresh ((lift_other hn).trans hg) b⟩
  | resumeRunning hg _ ih =>
    intro h f
    obtain ⟨a, m, b⟩ := ih h f
    have hn : asleep G _ = false := Bool.eq_false_iff.mpr fun z => h.awake z hg rfl
    exact ⟨a, m, .resumeRunning ((lift_other hn).trans hg) b⟩
  | resumeFinished hg _ ih =>
    intro h f
    obtain ⟨a, m, b⟩ := ih h f
    have hn : asleep G _ = false := Bool.eq_false_iff.mpr fun z => h.awake z hg rfl
    exact ⟨a, m, .resumeFinished ((lift_other hn).trans hg) b⟩
  | segRet _ _ ih1 ih2 =>
    intro h f
    rw [splitAtGen_ret] at f
    obtain ⟨a, _, b⟩ := ih1 h rfl
    obtain ⟨c, n, d⟩ := ih2 a (by simpa using f)
    exact ⟨c, n, .segRet b d⟩
  | segGen _ _ _ _ => intro h f; cases f
  | segSuspOut hs _ ih =>
    intro h f
    obtain ⟨a, n, b⟩ := ih h rfl
    have n : splitAtGen _ = none := n
    refine ⟨a, ?_, .segSuspOut hs b⟩
    show splitAtGen _ = none
    rw [splitAtGen_append_none _ n, hs]; rfl
  | segSuspGen hs _ _ _ _ _ => intro h f; rw [hs] at f; cases f

theorem wakes_keep {Γ : PySem.Ctx} {p : Pos} {n : Nat} {r : Resume} {s s' : Shared} {res : GenResult} (N : Numb G s) (h : Wakes M Γ p n r s res s') : Numb G s' ∧ Wakes M Γ p n r (lift G s) res (lift G s') := by
  unfold Wakes at h
  have no : ∀ {x}, s.gens[n]? = some x → Sleeps x = false → asleep G n = false := fun e hx => Bool.eq_false_iff.mpr fun z => N.awake z e hx
  split at h
  · exact h.elim
  · rename_i e
    have hn := no e rfl
    have e' := (lift_other (s := s) hn).trans e
    split at h
    · obtain ⟨e₁, s₁, hr, hq, rfl, rfl⟩ := h
      obtain ⟨a, m, b⟩ := runs_keep hr (N.set hn (fun _ _ _ _ _ _ z => by cases z)) rfl
      rw [lift_set hn] at b
      refine ⟨a.set hn (endNice_gen m), ?_⟩
      unfold Wakes
      rw [e']
      exact ⟨e₁, _, b, hq, rfl, lift_set hn⟩
    · obtain ⟨rfl, rfl⟩ := h
      refine ⟨N, ?_⟩
      unfold Wakes
      rw [e']
      rename_i v hne
      cases v <;> first | exact (hne rfl).elim | exact ⟨rfl, rfl⟩
    · obtain ⟨rfl, rfl⟩ := h
      refine ⟨N.set hn (fun _ _ _ _ _ _ z => by cases z), ?_⟩
      unfold Wakes
      rw [e']
      exact ⟨rfl, lift_set hn⟩
  · rename_i k₀ l₀ c₀ p₀ fs₀ cl₀ e
    obtain ⟨e₁, s₁, hr, hq, rfl, rfl⟩ := h
    have hn : asleep G n = false := Bool.eq_false_iff.mpr fun z => by
      obtain ⟨y, _, hs, e1, _⟩ := N.at z
      rw [e] at e1
      cases y with
      | suspended k l c p fs cl => cases e1; exact never_woken hr rfl
      | _ => cases hs
    obtain ⟨a, m, b⟩ := runs_keep hr (N.set hn (fun _ _ _ _ _ _ z => by cases z)) (N.nice _ _ _ _ _ _ _ hn e)
    rw [lift_set hn] at b
    refine ⟨a.set hn (endNice_gen m), ?_⟩
    unfold Wakes
    rw [(lift_other (s := s) hn).trans e]
    exact ⟨e₁, _, b, hq, rfl, lift_set hn⟩
  · rename_i e
    obtain ⟨rfl, rfl⟩ := h
    refine ⟨N, ?_⟩
    unfold Wakes
    rw [(lift_other (no e rfl)).trans e]
    exact ⟨rfl, rfl⟩
  · rename_i e
    obtain ⟨rfl, rfl⟩ := h
    refine ⟨N, ?_⟩
    unfold Wakes
    rw [(lift_other (no e rfl)).trans e]
    exact ⟨rfl, rfl⟩
theorem wp_keep {α : Type} {Γ : PySem.Ctx} (t : Sem α) : ∀ (Q : α → Pos → Shared → Prop) (E : Value → Pos → Shared → Prop) (p : Pos) (s : Shared), Numb G s → wp M Γ t Q E p s →
    wp M Γ t (fun a p' s' => ∃ z, Numb G z ∧ s' = lift G z ∧ Q a p' z) (fun e p' s' => ∃ z, Numb G z ∧ s' = lift G z ∧ E e p' z) p (lift G s) := by
  induction t with
  | pure a => intro Q E p s hn h; exact ⟨s, hn, rfl, h⟩
  | raise e => intro Q E p s hn h; exact ⟨s, hn, rfl, h⟩
  | unsupported _ => intro Q E p s _ h; exact h
  | finish _ => intro Q E p s _ h; exact h
  | rule _ k ih => intro Q E p s hn h; exact ih () Q E p s hn h
  | «at» p' k ih => intro Q E p s hn h; exact ih () Q E p' s hn h
  | load a _ k ih => intro Q E p s hn h; obtain ⟨o, ho, h⟩ := h; exact ⟨o, ho, ih o Q E p s hn h⟩
  | update a _ f k ih => intro Q E p s hn h; exact ⟨h.1, ih () Q E p { s with heap := s.heap.update a f } (hn.same rfl) h.2⟩
  | loadIfAlive a k ih => intro Q E p s hn h; exact ih _ Q E p s hn h
  | point _ k ih => intro Q E p s hn h; exact ih () Q E p s hn h
  | register _ _ => intro Q E p s _ h; exact h
  | alloc o k ih => intro Q E p s hn h; exact ih _ Q E p { s with heap := s.heap.push o } (hn.same rfl) h
  | fresh k ih => intro Q E p s hn h; exact ih _ Q E p { s with toks := s.toks + 1 } (hn.same rfl) h
  | ask k ih => intro Q E p s hn h; exact ih _ Q E p s hn h
  | choose src m k ih => intro Q E p s hn h; exact ⟨h.1, ih _ Q E p { s with drawn := s.drawn.bump src } (hn.same rfl) h.2⟩
  | os q _ k ih => intro Q E p s hn h; exact ih _ Q E p { s with os := (Os.step s.os q).1 } (hn.same rfl) h
  | call c hd _ _ k ih =>
    intro Q E p s hn h
    obtain ⟨r, s', hr, h⟩ := h
    obtain ⟨a, _, b⟩ := runs_keep hr hn rfl
    exact ⟨r, _, b, ih r Q E p s' a h⟩
  | handled own k ih => intro Q E p s hn h; exact ih _ Q E p s hn h
  | genState g k ih =>
    intro Q E p s hn h
    obtain ⟨st, hs, h⟩ := h
    cases hz : asleep G g with
    | true =>
      obtain ⟨y, _, _, e1, e2⟩ := hn.at hz
      rw [e1] at hs
      cases hs
      rw [numb_seen] at h
      exact ⟨y, e2, ih _ Q E p s hn h⟩
    | false => exact ⟨st, (lift_other hz).trans hs, ih _ Q E p s hn h⟩
  | newGen c k ih =>
    intro Q E p s hn h
    have := ih _ Q E p _ hn.push h
    rw [lift_push hn.size] at this
    show wp M Γ (k (lift G s).gens.size) _ _ p _
    rw [lift_size]
    exact this
  | resume g r _ k ih =>
    intro Q E p s hn h
    obtain ⟨res, s', hw, h⟩ := h
    obtain ⟨a, b⟩ := wakes_keep hn hw
    exact ⟨res, _, b, ih res Q E p s' a h⟩
  | yield _ _ _ _ => intro Q E p s _ h; exact h
  | stack k ih => intro Q E p s hn h; exact ih _ Q E p s hn h
  | fork _ _ => intro Q E p s _ h; exact h
  | thread k ih => intro Q E p s hn h; exact ih _ Q E p s hn h
  | await _ _ _ _ _ => intro Q E p s _ h; exact h
end

/-- none of the sleepers can wake -/
def numbed (s : Shared) : Shared := { s with gens := s.gens.map numb }
theorem numb_numbed (s : Shared) : Numb s.gens (numbed s) where
  size := by show _ ≤ (s.gens.map numb).size; rw [Array.size_map]; exact Nat.le_refl _
  still := fun i y e _ => by show (s.gens.map numb)[i]? = _; rw [Array.getElem?_map, e]; rfl
  nice := fun i k l c p fs cl hi e => by
    have e : (s.gens.map numb)[i]? = _ := e
    rw [Array.getElem?_map] at e
    cases h : s.gens[i]? with
    | none => rw [h] at e; cases e
    | some y =>
      rw [h] at e
      have e : numb y = _ := Option.some.inj e
      have hz : asleep s.gens i = Sleeps y := by unfold asleep; rw [h]
      rw [hz] at hi
      cases y with
      | suspended _ _ _ _ _ _ => cases hi
      | _ => cases e
theorem lift_numbed (s : Shared) : lift s.gens (numbed s) = s := by
  show ({ s with gens := (s.gens.map numb).mapIdx (putBack s.gens) } : Shared) = s
  have : (s.gens.map numb).mapIdx (putBack s.gens) = s.gens := by
    apply Array.ext_getElem?
    intro i
    rw [Array.getElem?_mapIdx, Array.getElem?_map]
    cases h : s.gens[i]? with
    | none => rfl
    | some y =>
      show some (putBack s.gens i (numb y)) = some y
      unfold putBack asleep
      rw [h]
      cases y <;> rfl
  rw [this]
/-- all that slept sleeps as it did -/
def KeepsAsleep (s s' : Shared) : Prop := ∀ (i : Nat) (y : GenState), s.gens[i]? = some y → Sleeps y = true → s'.gens[i]? = some y
theorem KeepsAsleep.refl (s : Shared) : KeepsAsleep s s := fun _ _ e _ => e
theorem KeepsAsleep.trans {s s1 s2 : Shared} (a : KeepsAsleep s s1) (b : KeepsAsleep s1 s2) : KeepsAsleep s s2 := fun i y e h => b i y (a i y e h) h
/-- s' but for the sleepers: what the rules speak of -/
structure Awake (s s' z : Shared) : Prop where
  keep : KeepsAsleep s s'
  heap : s'.heap = z.heap
  os : s'.os = z.os
  toks : s'.toks = z.toks
  drawn : s'.drawn = z.drawn
  other : ∀ i, asleep s.gens i = false → s'.gens[i]? = z.gens[i]?
  size : s'.gens.size = z.gens.size
  bare : AllBare s.gens → AllBare z.gens → AllBare s'.gens
  same : z.gens = (numbed s).gens → s'.gens = s.gens
  grow : s.gens.size ≤ s'.gens.size
theorem Awake.of {s z : Shared} (N : Numb s.gens z) : Awake s (lift s.gens z) z where
  keep := fun i y e h => by
    have hi : asleep s.gens i = true := by unfold asleep; rw [e]; exact h
    obtain ⟨w, e1, _, _, e2⟩ := N.at hi
    rw [e] at e1
    cases e1
    exact e2
  heap := rfl
  os := rfl
  toks := rfl
  drawn := rfl
  other := fun i h => lift_other h
  size := lift_size
  bare := fun hs hz y hy => by
    obtain ⟨i, hi, e⟩ := Array.mem_iff_getElem.mp hy
    have e : (lift s.gens z).gens[i]? = some y := by rw [Array.getElem?_eq_getElem hi, e]
    cases h : asleep s.gens i with
    | true =>
      obtain ⟨w, e1, _, _, e2⟩ := N.at h
      rw [e2] at e
      cases e
      exact hs _ (Array.mem_of_getElem? e1)
    | false =>
      rw [lift_other h] at e
      exact hz _ (Array.mem_of_getElem? e)
  same := fun e => by
    show z.gens.mapIdx (putBack s.gens) = s.gens
    rw [e]
    exact congrArg Shared.gens (lift_numbed s)
  grow := by rw [lift_size]; exact N.size
theorem numbed_bare {s : Shared} (h : AllBare s.gens) : AllBare (numbed s).gens := fun y hy => by
  obtain ⟨x, hx, rfl⟩ := Array.mem_map.mp (show y ∈ s.gens.map numb from hy)
  exact numb_bare (h x hx)
/-- THE RULE: what the run does where no sleeper can wake it does as it is, and no sleeper wakes -/
theorem wpAny_asleep {α : Type} {M : Model} {A : Around} {t : Sem α} {Q : α → Shared → Prop} {E : Value → Shared → Prop} {s : Shared} (h : wpAny M A t Q E (numbed s)) :
    wpAny M A t (fun a s' => ∃ z, Awake s s' z ∧ Q a z) (fun e s' => ∃ z, Awake s s' z ∧ E e z) s := fun Γ p hΓ => by
  have := wp_keep (G := s.gens) t _ _ p _ (numb_numbed s) (h Γ p hΓ)
  rw [lift_numbed] at this
  exact Sem.wp_mono M Γ t (fun a _ s' ⟨z, N, e, q⟩ => ⟨z, e ▸ Awake.of N, q⟩) (fun a _ s' ⟨z, N, e, q⟩ => ⟨z, e ▸ Awake.of N, q⟩) p s this
end Ami

set_option Elab.async false
set_option linter.all false
set_option maxRecDepth 100000
set_option maxHeartbeats 2000000
/-! a run has one end: so what holds of it in each of many ways holds of it in all of them at once -/
namespace Ami
open PySem PySem.Spec PyProof.Rows L2 GenW
open Sem (wp)
section
variable {M : Model}
theorem runs_one {Γ : PySem.Ctx} {p : Pos} {t : Sem PySem.Fin} {fs : List Frame} {s s' : Shared} {e : End} (h : Runs M Γ p t fs s e s') : ∀ {e₂ s₂}, Runs M Γ p t fs s e₂ s₂ → e₂ = e ∧ s₂ = s' := by
  induction h with
  | done => intro e2 s2 h; cases h; exact ⟨rfl, rfl⟩
  | raise => intro e2 s2 h; cases h; exact ⟨rfl, rfl⟩
  | again _ _ ih => intro e2 s2 h; cases h; rename_i a; exact ih a
  | rule _ ih => intro e2 s2 h; cases h; rename_i a; exact ih a
  | «at» _ ih => intro e2 s2 h; cases h; rename_i a; exact ih a
  | load ho _ ih => intro e2 s2 h; cases h; rename_i ho' a; rw [ho] at ho'; cases ho'; exact ih a
  | update _ _ ih => intro e2 s2 h; cases h; rename_i a; exact ih a
  | loadIfAlive _ ih => intro e2 s2 h; cases h; rename_i a; exact ih a
  | point _ ih => intro e2 s2 h; cases h; rename_i a; exact ih a
  | alloc _ ih => intro e2 s2 h; cases h; rename_i a; exact ih a
  | fresh _ ih => intro e2 s2 h; cases h; rename_i a; exact ih a
  | ask _ ih => intro e2 s2 h; cases h; rename_i a; exact ih a
  | choose _ _ ih => intro e2 s2 h; cases h; rename_i a; exact ih a
  | os _ ih => intro e2 s2 h; cases h; rename_i a; exact ih a
  | handled _ ih => intro e2 s2 h; cases h; rename_i a; exact ih a
  | genState hg _ ih => intro e2 s2 h; cases h; rename_i hg' a; rw [hg] at hg'; cases hg'; exact ih a
  | stack _ ih => intro e2 s2 h; cases h; rename_i a; exact ih a
  | thread _ ih => intro e2 s2 h; cases h; rename_i a; exact ih a
  | newGen _ ih => intro e2 s2 h; cases h; rename_i a; exact ih a
  | call _ _ ih1 ih2 =>
    intro e2 s2 h
    cases h with
    | call a b =>
      obtain ⟨z1, z2⟩ := ih1 a
      cases z1; cases z2
      exact ih2 b
    | callSusp a => have z := (ih1 a).1; cases z
  | callSusp _ ih1 =>
    intro e2 s2 h
    cases h with
    | call a b => have z := (ih1 a).1; cases z
    | callSusp a =>
      obtain ⟨z1, z2⟩ := ih1 a
      cases z1; cases z2
      exact ⟨rfl, rfl⟩
  | yield => intro e2 s2 h; cases h; exact ⟨rfl, rfl⟩
  | resumeFresh hg _ _ _ ih1 ih2 =>
    intro e2 s2 h
    cases h with
    | resumeFresh hg' a hq' b =>
      rw [hg] at hg'; cases hg'
      obtain ⟨z1, z2⟩ := ih1 a
      cases z1; cases z2
      exact ih2 b
    | resumeSuspended hg' => rw [hg] at hg'; cases hg'
    | resumeJustStarted hg' hv => exact absurd rfl hv
    | resumeRunning hg' => rw [hg] at hg'; cases hg'
    | resumeFinished hg' => rw [hg] at hg'; cases hg'
  | resumeSuspended hg _ _ _ ih1 ih2 =>
    intro e2 s2 h
    cases h with
    | resumeFresh hg' => rw [hg] at hg'; cases hg'
    | resumeSuspended hg' a hq' b =>
      rw [hg] at hg'; cases hg'
      obtain ⟨z1, z2⟩ := ih1 a
      cases z1; cases z2
      exact ih2 b
    | resumeJustStarted hg' => rw [hg] at hg'; cases hg'
    | resumeThrowFresh hg' => rw [hg] at hg'; cases hg'
    | resumeRunning hg' => rw [hg] at hg'; cases hg'
    | resumeFinished hg' => rw [hg] at hg'; cases hg'
  | resumeJustStarted hg hv _ ih =>
    intro e2 s2 h
    cases h with
    | resumeFresh => exact absurd rfl hv
    | resumeSuspended hg' => rw [hg] at hg'; cases hg'
    | resumeJustStarted hg' _ a => exact ih a
    | resumeRunning hg' => rw [hg] at hg'; cases hg'
    | resumeFinished hg' => rw [hg] at hg'; cases hg'
  | resumeThrowFresh hg _ ih =>
    intro e2 s2 h
    cases h with
    | resumeSuspended hg' => rw [hg] at hg'; cases hg'
    | resumeThrowFresh hg' a => exact ih a
    | resumeRunning hg' => rw [hg] at hg'; cases hg'
    | resumeFinished hg' => rw [hg] at hg'; cases hg'
  | resumeRunning hg _ ih =>
    intro e2 s2 h
    cases h with
    | resumeFresh hg' => rw [hg] at hg'; cases hg'
    | resumeSuspended hg' => rw [hg] at hg'; cases hg'
    | resumeJustStarted hg' => rw [hg] at hg'; cases hg'
    | resumeThrowFresh hg' => rw [hg] at hg'; cases hg'
    | resumeRunning hg' a => exact ih a
    | resumeFinished hg' => rw [hg] at hg'; cases hg'
  | resumeFinished hg _ ih =>
    intro e2 s2 h
    cases h with
    | resumeFresh hg' => rw [hg] at hg'; cases hg'
    | resumeSuspended hg' => rw [hg] at hg'; cases hg'
    | resumeJustStarted hg' => rw [hg] at hg'; cases hg'
    | resumeThrowFresh hg' => rw [hg] at hg'; cases hg'
    | resumeRunning hg' => rw [hg] at hg'; cases hg'
    | resumeFinished hg' a => exact ih a
  | segRet _ _ ih1 ih2 =>
    intro e2 s2 h
    cases h with
    | segRet a b =>
      obtain ⟨z1, z2⟩ := ih1 a
      cases z1; cases z2
      exact ih2 b
    | segSuspOut _ a => have z := (ih1 a).1; cases z
    | segSuspGen _ a => have z := (ih1 a).1; cases z
  | segGen _ _ ih1 ih2 =>
    intro e2 s2 h
    cases h with
    | segGen a b =>
      obtain ⟨z1, z2⟩ := ih1 a
      cases z1; cases z2
      exact ih2 b
    | segSuspOut _ a => have z := (ih1 a).1; cases z
    | segSuspGen _ a => have z := (ih1 a).1; cases z
  | segSuspOut hs _ ih1 =>
    intro e2 s2 h
    cases h with
    | segRet a b => have z := (ih1 a).1; cases z
    | segGen a b => have z := (ih1 a).1; cases z
    | segSuspOut _ a =>
      obtain ⟨z1, z2⟩ := ih1 a
      cases z1; cases z2
      exact ⟨rfl, rfl⟩
    | segSuspGen hs' a => rw [hs] at hs'; cases hs'
  | segSuspGen hs _ _ _ ih1 ih2 =>
    intro e2 s2 h
    cases h with
    | segRet a b => have z := (ih1 a).1; cases z
    | segGen a b => have z := (ih1 a).1; cases z
    | segSuspOut hs' a => rw [hs] at hs'; cases hs'
    | segSuspGen hs' a _ b =>
      rw [hs] at hs'; cases hs'
      obtain ⟨z1, z2⟩ := ih1 a
      cases z1; cases z2
      exact ih2 b
theorem wakes_one {Γ : PySem.Ctx} {p : Pos} {g : Nat} {r : Resume} {s s1 s2 : Shared} {x1 x2 : GenResult} (h1 : Wakes M Γ p g r s x1 s1) (h2 : Wakes M Γ p g r s x2 s2) : x2 = x1 ∧ s2 = s1 := by
  unfold Wakes at h1 h2
  generalize hz : s.gens[g]? = z at h1 h2
  cases z with
  | none => exact h1.elim
  | some z =>
    cases z with
    | fresh c =>
      cases r with
      | throw x =>
        obtain ⟨rfl, rfl⟩ := h1
        obtain ⟨rfl, rfl⟩ := h2
        exact ⟨rfl, rfl⟩
      | send v =>
        cases v with
        | none =>
          obtain ⟨e, z, hr, _, rfl, rfl⟩ := h1
          obtain ⟨e', z', hr', _, rfl, rfl⟩ := h2
          obtain ⟨rfl, rfl⟩ := runs_one hr hr'
          exact ⟨rfl, rfl⟩
        | _ =>
          obtain ⟨rfl, rfl⟩ := h1
          obtain ⟨rfl, rfl⟩ := h2
          exact ⟨rfl, rfl⟩
    | suspended k l c p0 fs cl =>
      obtain ⟨e, z, hr, _, rfl, rfl⟩ := h1
      obtain ⟨e', z', hr', _, rfl, rfl⟩ := h2
      obtain ⟨rfl, rfl⟩ := runs_one hr hr'
      exact ⟨rfl, rfl⟩
    | running =>
      obtain ⟨rfl, rfl⟩ := h1
      obtain ⟨rfl, rfl⟩ := h2
      exact ⟨rfl, rfl⟩
    | finished =>
      obtain ⟨rfl, rfl⟩ := h1
      obtain ⟨rfl, rfl⟩ := h2
      exact ⟨rfl, rfl⟩

theorem wp_all {ι : Type} (i₀ : ι) {α : Type} {Γ : PySem.Ctx} (t : Sem α) : ∀ (Q : ι → α → Pos → Shared → Prop) (E : ι → Value → Pos → Shared → Prop) (p : Pos) (s : Shared), (∀ i, wp M Γ t (Q i) (E i) p s) →
    wp M Γ t (fun a p' s' => ∀ i, Q i a p' s') (fun e p' s' => ∀ i, E i e p' s') p s := by
  induction t with
  | pure a => intro Q E p s h; exact h
  | raise e => intro Q E p s h; exact h
  | unsupported _ => intro Q E p s h; exact h i₀
  | finish _ => intro Q E p s h; exact h i₀
  | rule _ k ih => intro Q E p s h; exact ih () Q E p s h
  | «at» p' k ih => intro Q E p s h; exact ih () Q E p' s h
  | load a _ k ih =>
    intro Q E p s h
    obtain ⟨o, ho, _⟩ := h i₀
    refine ⟨o, ho, ih o Q E p s fun i => ?_⟩
    obtain ⟨o', ho', q⟩ := h i
    rw [ho] at ho'; cases ho'
    exact q
  | update a _ f k ih => intro Q E p s h; exact ⟨(h i₀).1, ih () Q E p { s with heap := s.heap.update a f } fun i => (h i).2⟩
  | loadIfAlive a k ih => intro Q E p s h; exact ih _ Q E p s h
  | point _ k ih => intro Q E p s h; exact ih () Q E p s h
  | register _ _ => intro Q E p s h; exact h i₀
  | alloc o k ih => intro Q E p s h; exact ih _ Q E p { s with heap := s.heap.push o } h
  | fresh k ih => intro Q E p s h; exact ih _ Q E p { s with toks := s.toks + 1 } h
  | ask k ih => intro Q E p s h; exact ih _ Q E p s h
  | choose src m k ih => intro Q E p s h; exact ⟨(h i₀).1, ih _ Q E p { s with drawn := s.drawn.bump src } fun i => (h i).2⟩
  | os q _ k ih => intro Q E p s h; exact ih _ Q E p { s with os := (Os.step s.os q).1 } h
  | call c hd _ _ k ih =>
    intro Q E p s h
    obtain ⟨r, s', hr, _⟩ := h i₀
    refine ⟨r, s', hr, ih r Q E p s' fun i => ?_⟩
    obtain ⟨r', s2, hr', q⟩ := h i
    obtain ⟨z1, z2⟩ := runs_one hr hr'
    cases z1; cases z2
    exact q
  | handled own k ih => intro Q E p s h; exact ih _ Q E p s h
  | genState g k ih =>
    intro Q E p s h
    obtain ⟨o, ho, _⟩ := h i₀
    refine ⟨o, ho, ih _ Q E p s fun i => ?_⟩
    obtain ⟨o', ho', q⟩ := h i
    rw [ho] at ho'; cases ho'
    exact q
  | newGen c k ih => intro Q E p s h; exact ih _ Q E p { s with gens := s.gens.push (.fresh c) } h
  | resume g r _ k ih =>
    intro Q E p s h
    obtain ⟨res, s', hw, _⟩ := h i₀
    refine ⟨res, s', hw, ih res Q E p s' fun i => ?_⟩
    obtain ⟨res', s2, hw', q⟩ := h i
    obtain ⟨rfl, rfl⟩ := wakes_one hw hw'
    exact q
  | yield _ _ _ _ => intro Q E p s h; exact h i₀
  | stack k ih => intro Q E p s h; exact ih _ Q E p s h
  | fork _ _ => intro Q E p s h; exact h i₀
  | thread k ih => intro Q E p s h; exact ih _ Q E p s h
  | await _ _ _ _ _ => intro Q E p s h; exact h i₀
end
/-- THE RULE: what is proved of a run in each of many ways holds in all of them at once -/
theorem wpAny_all {ι : Type} (i₀ : ι) {α : Type} {M : Model} {A : Around} {t : Sem α} {Q : ι → α → Shared → Prop} {E : ι → Value → Shared → Prop} {s : Shared} (h : ∀ i, wpAny M A t (Q i) (E i) s) :
    wpAny M A t (fun a s' => ∀ i, Q i a s') (fun e s' => ∀ i, E i e s') s := fun Γ p hΓ => wp_all i₀ t _ _ p s fun i => h i Γ p hΓ
end Ami

set_option Elab.async false
set_option linter.all false
set_option maxRecDepth 100000
set_option maxHeartbeats 2000000
/-! a generator by its steps: what it hands out one by one, whatever goes on between -/
namespace Ami
open PySem PySem.Spec PyProof.Rows L2 GenW
abbrev E0 : XK := L2.E0
/-- a generator def's frame at work within A (made at s); s₀: an older state, what stood there still stands; no exception leaves -/
abbrev gcx (P : Program) (w : World) (K : PySem.W.Frag) (mg : Str → Option Value) (base : Heap) (N : List Str) (qual : Str) (scope : Scope) (f : Addr) (cd : Value) (A : Around) (outer : List Env) (s s₀ : Shared) (H : Hp) : Cx :=
  { gcxOf P w K mg base N qual scope f cd A outer s H E0 [] with s_0 := s₀, xe := fun _ _ => False }
/-- what a generator's frame wants of an older state -/
structure Env1 (base : Heap) (outer : List Env) (s : Shared) (H : Hp) : Prop where
  bs : ∀ b o, base.get? b = some o → s.heap.get? b = some o ∧ H b = none
  bsz : base.objs.size ≤ s.heap.objs.size
  funs : s.heap.FunFrames base outer
  frf : ∀ b ∈ frs outer, H b = none
theorem env1 {P : Program} {w : World} {K : PySem.W.Frag} {mg : Str → Option Value} {base : Heap} {A : Around} {outer : List Env} {s : Shared} {H : Hp} (e : Env0 P w K mg base A outer s H) : Env1 base outer s H := ⟨e.bs, e.bsz, e.funs, e.frf⟩
section
variable {P : Program} {w : World} {K : PySem.W.Frag} {mg : Str → Option Value} {base : Heap} {N : List Str} {qual : Str} {scope : Scope} {f : Addr} {cd : Value} {A : Around} {outer : List Env} {s s₀ s1 : Shared} {H : Hp}
theorem inv_gcx {σ : L2.St} (I : Inv (gcxOf P w K mg base N qual scope f cd A outer s H E0 []) [] σ H s1) (e : Env1 base outer s₀ H) (hz : s₀.heap.objs.size ≤ s.heap.objs.size) (ho : s1.os = s₀.os) (u : Un (frs outer) [] H H s₀.heap s1.heap) :
    Inv (gcx P w K mg base N qual scope f cd A outer s s₀ H) [] σ H s1 := by
  have k := I.ok
  refine ⟨⟨k.mod, k.kind, k.glob, k.blt, Nat.le_trans hz k.above, k.inj, k.has, fun x c h1 h2 => Nat.le_trans hz (k.cab x c h1 h2), k.hd, k.frames, k.stk, k.exf, e.bs, e.bsz, k.noex, k.exfs, e.funs, e.frf⟩,
    ho, I.bare, u, I.loc, I.cell, I.free, I.freeC, I.pin, I.hok, I.len⟩
end

/-! ### the frame while it sleeps -/
/-- a frame without cells, as it stands -/
def Frm (X : Cx) (σ : L2.St) (h : Heap) : Prop := ∃ m, h.Ns X.env.locals m ∧ ∀ (i : Nat) (x : Str) (v : V), X.N[i]? = some x → σ[i]? = some (some v) → Vis X.env.scope x → ∃ u, RelV v u ∧ X.env.kindOf x = some .local ∧ m x = some u
structure Bare (X : Cx) : Prop where
  cells : X.env.cells = []
  pn : X.pn = []
  ex : X.ex = []
section
variable {X : Cx} {σ : L2.St} {H : Hp} {s : Shared}
theorem Frm.of (B : Bare X) (I : Inv X [] σ H s) : Frm X σ s.heap := by
  obtain ⟨m, hn, hl⟩ := I.loc
  refine ⟨m, hn, fun i x v h1 h2 h3 => ?_⟩
  obtain ⟨u, r, l⟩ := hl i x v h1 h2 h3
  refine ⟨u, r, ?_⟩
  rcases l with l | ⟨_, c, hc, _⟩
  · exact l
  · rw [B.cells] at hc; cases hc
theorem Frm.keep {h h' : Heap} (F : Frm X σ h) (k : ∀ o, h.get? X.env.locals = some o → h'.get? X.env.locals = some o) : Frm X σ h' := by
  obtain ⟨m, ⟨o, es, ep, ho, r⟩, hl⟩ := F
  exact ⟨m, ⟨o, es, ep, k o ho, r⟩, hl⟩
theorem Frm.inv (B : Bare X) (ok : X.Ok) (F : Frm X σ s.heap) (os : s.os = X.s_0.os) (bare : AllBare s.gens) (u : Un X.fs [] X.H_0 H X.s_0.heap s.heap) (hL : H X.env.locals = none) (hok : HOk X.prog X.w H s.heap) (len : σ.length = X.N.length) : Inv X [] σ H s := by
  obtain ⟨m, hn, hl⟩ := F
  refine ⟨ok, os, bare, by rw [B.ex]; exact u, ⟨m, hn, fun i x v h1 h2 h3 => ?_⟩, fun x c h => ?_, hL, fun x c h => ?_, fun p hp => ?_, hok, len⟩
  · obtain ⟨v', r, l⟩ := hl i x v h1 h2 h3
    exact ⟨v', r, .inl l⟩
  · rw [B.cells] at h; cases h
  · rw [B.cells] at h; cases h
  · rw [B.pn] at hp; cases hp

/-! ### all that stands about it is kept -/
/-- all that is not its own, as it stands -/
noncomputable def allH (X : Cx) (H : Hp) (s : Shared) : Hp := fun b => match H b with
  | some u => some u
  | none => open Classical in if b = X.env.locals ∨ b ∈ X.fs ∨ ((∃ o, X.s_0.heap.get? b = some o) ∧ X.H_0 b = none) then none else (s.heap.get? b).map fun o => HO.ext fun h => h.get? b = some o
theorem allH_some {b : Addr} {u : HO} (h : H b = some u) : allH X H s b = some u := by unfold allH; rw [h]
theorem allH_in {b : Addr} {o : Obj} (h : H b = none) (e : s.heap.get? b = some o) (h1 : b ≠ X.env.locals) (h2 : b ∉ X.fs) (h3 : ¬ ((∃ o, X.s_0.heap.get? b = some o) ∧ X.H_0 b = none)) : allH X H s b = some (.ext fun h => h.get? b = some o) := by
  unfold allH
  rw [h]
  dsimp only
  rw [if_neg fun z => z.elim h1 fun z => z.elim h2 h3, e]
  rfl
theorem allH_out {b : Addr} (h : H b = none) (hb : b = X.env.locals ∨ b ∈ X.fs ∨ ((∃ o, X.s_0.heap.get? b = some o) ∧ X.H_0 b = none)) : allH X H s b = none := by
  unfold allH
  rw [h]
  dsimp only
  rw [if_pos hb]
theorem allH_inv {b : Addr} {u : HO} (e : allH X H s b = some u) : H b = some u ∨ (H b = none ∧ ∃ o, s.heap.get? b = some o ∧ u = .ext fun h => h.get? b = some o) := by
  unfold allH at e
  cases h : H b with
  | some v => rw [h] at e; exact .inl e
  | none =>
    rw [h] at e
    dsimp only at e
    split at e
    · cases e
    · cases ho : s.heap.get? b with
      | none => rw [ho] at e; cases e
      | some o => rw [ho] at e; cases e; exact .inr ⟨rfl, o, rfl, rfl⟩
theorem inv_allH (B : Bare X) (I : Inv X [] σ H s) : Inv X [] σ (allH X H s) s := by
  refine (Frm.of B I).inv B I.ok I.os I.bare ⟨?_, ?_, fun b o e n hx => ?_, ?_, fun b xs e => allH_some (I.base.tups b xs e), fun b o u e => allH_some (I.base.frzs b o u e), fun b ps e => ?_⟩ (allH_out I.free (.inl rfl)) ?_ I.len
  · intro b o e n h1 h2; exact I.base.keep b o e n h1 (by rw [B.ex]; exact h2)
  · intro b o e n h1 h2; exact I.base.slot b o e n h1 (by rw [B.ex]; exact h2)
  · exact allH_out (I.base.free b o e n (by rw [B.ex]; exact hx)) (.inr (.inr ⟨⟨o, e⟩, n⟩))
  · intro b o e h2; exact I.base.there b o e (by rw [B.ex]; exact h2)
  · obtain ⟨m, e1⟩ := I.base.tbls b ps e
    exact ⟨m, allH_some e1⟩
  · intro b u e
    rcases allH_inv e with e | ⟨_, o, ho, rfl⟩
    · exact (I.hok b u e).stay (fun _ _ _ z => z) (fun c z => allH_some z) fun c xs z => allH_some z
    · exact ⟨ho, ⟨o, ho⟩, fun h1 h2 k1 k2 => k2 o k1⟩
end
/-- from one state to another the frame goes from σ₀ to σ, the tracked heap (any) is as it was -/
def Way (X : Cx) (σ₀ : L2.St) (s₀ : Shared) (σ : L2.St) (s : Shared) : Prop := ∀ H, Inv X [] σ₀ H s₀ → Inv X [] σ H s
theorem Way.refl {X : Cx} {σ : L2.St} {s : Shared} : Way X σ s σ s := fun _ I => I
/-- all that stood about it stands -/
theorem Way.keeps {X : Cx} {σ₀ σ : L2.St} {s₀ s : Shared} {H : Hp} (B : Bare X) (k : Way X σ₀ s₀ σ s) (I : Inv X [] σ₀ H s₀) : Un X.fs [X.env.locals] H H s₀.heap s.heap := by
  have I0 := inv_allH B I
  have J := k _ I0
  have J1 := k _ I
  have exn : ∀ b, b ∉ X.ex := fun b => by rw [B.ex]; simp
  have key : ∀ b o, s₀.heap.get? b = some o → H b = none → b ≠ X.env.locals → b ∉ X.fs → s.heap.get? b = some o := fun b o e n h1 h2 => by
    by_cases h3 : (∃ o, X.s_0.heap.get? b = some o) ∧ X.H_0 b = none
    · obtain ⟨⟨o', e'⟩, n'⟩ := h3
      have a1 := I.base.keep b o' e' n' h2 (exn b)
      have a2 := J1.base.keep b o' e' n' h2 (exn b)
      rw [a1] at e; cases e
      exact a2
    · obtain ⟨p, _, _⟩ := J.hok b _ (allH_in n e h1 h2 h3)
      exact p
  refine ⟨fun b o e n h1 h2 => key b o e n (by simpa using h2) h1, fun b o e n h1 h2 => ?_, fun b o e n h2 => n, fun b o e h2 => ?_, fun _ _ e => e, fun _ _ _ e => e, fun b ps e => ⟨#[], by rw [e]; simp⟩⟩
  · obtain ⟨_, o', ho', _⟩ := I.ok.funs.mem h1
    obtain ⟨sl, a1⟩ := I.base.slot b o' ho' (I.ok.frf b h1) h1 (exn b)
    obtain ⟨sl2, a2⟩ := J1.base.slot b o' ho' (I.ok.frf b h1) h1 (exn b)
    rw [a1] at e; cases e
    exact ⟨sl2, a2⟩
  · cases n : H b with
    | some u => exact objOk_get (J1.hok b u n)
    | none =>
      have hL : b ≠ X.env.locals := by simpa using h2
      by_cases h1 : b ∈ X.fs
      · obtain ⟨_, o', ho', _⟩ := I.ok.funs.mem h1
        obtain ⟨sl2, a2⟩ := J1.base.slot b o' ho' (I.ok.frf b h1) h1 (exn b)
        exact ⟨_, a2⟩
      · exact ⟨o, key b o e n hL h1⟩
/-- the same frame over another older state -/
abbrev atS (X : Cx) (z : Shared) (h : Hp) : Cx := { X with s_0 := z, H_0 := h }
/-- its invariant, over some older state -/
def InvA (X : Cx) (σ : L2.St) (s : Shared) : Prop := ∃ z h H, Inv (atS X z h) [] σ H s
/-- whatever the older state is -/
def WayA (X : Cx) (σ₀ : L2.St) (s₀ : Shared) (σ : L2.St) (s : Shared) : Prop := ∀ z h, Way (atS X z h) σ₀ s₀ σ s
theorem WayA.refl {X : Cx} {σ : L2.St} {s : Shared} : WayA X σ s σ s := fun _ _ => Way.refl
theorem WayA.own {X : Cx} {σ₀ σ : L2.St} {s₀ s : Shared} (w : WayA X σ₀ s₀ σ s) : Way X σ₀ s₀ σ s := w X.s_0 X.H_0
theorem InvA.of {X : Cx} {σ : L2.St} {H : Hp} {s : Shared} (I : Inv X [] σ H s) : InvA X σ s := ⟨X.s_0, X.H_0, H, I⟩
/-- all pairs of an older state and tracked heaps that fit -/
abbrev Fits (X : Cx) (σ : L2.St) (s : Shared) := {t : Shared × Hp × Hp // Inv (atS X t.1 t.2.1) [] σ t.2.2 s}
end Ami

set_option Elab.async false
set_option linter.all false
set_option maxRecDepth 100000
set_option maxHeartbeats 2000000
/-! a generator by its steps: its body -/
namespace Ami
open PySem PySem.Spec PyProof.Rows L2 GenW
theorem wpAny_both {α : Type} {M : Model} {A : Around} {t : Sem α} {Q1 Q2 : α → Shared → Prop} {E1 E2 : Value → Shared → Prop} {s : Shared} (h1 : wpAny M A t Q1 E1 s) (h2 : wpAny M A t Q2 E2 s) :
    wpAny M A t (fun a s' => Q1 a s' ∧ Q2 a s') (fun e s' => E1 e s' ∧ E2 e s') s := by
  refine wpAny_mono (wpAny_all (ι := Bool) true (Q := fun i => if i = true then Q1 else Q2) (E := fun i => if i = true then E1 else E2) fun i => ?_) (fun a s' q => ⟨q true, q false⟩) fun a s' q => ⟨q true, q false⟩
  cases i
  · exact h2
  · exact h1

/-- it hands out the k-th item -/
def YQ (X : Cx) (xs : List V) (σ : Nat → L2.St) : Protocol := fun n s₀ v s kap => ∃ (k : Nat) (x : V), k + n + 1 = xs.length ∧ xs[k]? = some x ∧ RelV x v ∧ WayA X (σ k) s₀ (σ (k + 1)) s ∧ (k = 0 → s.gens = s₀.gens) ∧ InvA X (σ (k + 1)) s ∧ ∀ s', InvA X (σ (k + 1)) s' → kap (.send .none) s'
def RQ (X : Cx) (xs : List V) (σ : Nat → L2.St) : GenEnd := fun n s₀ r s => n = 0 ∧ (r = .ok (.ret .none) ∨ r = .ok .next) ∧ ∃ σ', WayA X (σ xs.length) s₀ σ' s

section
variable {X : Cx} {pins : List (Addr × Obj)} {σ : L2.St} {H : Hp} {s : Shared}
/-- an expression that leaves the generators alone -/
def PEg (X : Cx) (e : Expr) (t : TE) : Prop := ∀ (pins : List (Addr × Obj)) (s : Shared) (σ : L2.St) (H : Hp) (Q : VK), Inv X pins σ H s → t σ H Q → wpAny (model X.prog X.w) X.A (eval e X.env) (fun u s' => s'.gens = s.gens ∧ EP X pins σ Q u s') X.xe s
def PTg (X : Cx) (e : Expr) (t : TT) : Prop := ∀ (pins : List (Addr × Obj)) (s : Shared) (σ : L2.St) (H : Hp) (Q : Bool → Hp → Prop), Inv X pins σ H s → t σ H Q → wpAny (model X.prog X.w) X.A (isTrue e X.env (eval e X.env)) (fun u s' => s'.gens = s.gens ∧ TP X pins σ Q u s') X.xe s
theorem peg_var {i : Nat} {x : Str} {pos : Pos} (hN : X.N[i]? = some x) (hv : Vis X.env.scope x) (hd : (x == ("__debug__" : Str)) = false := by decide) (hcd : (x == ("__classdict__" : Str)) = false := by decide) : PEg X (.Name x pos) (tVar i) := by
  intro pins s σ H Q I h
  obtain ⟨v, e, h⟩ := h
  obtain ⟨m, hn, hl⟩ := I.loc
  obtain ⟨u, r, l⟩ := hl i x v hN e hv
  rcases l with ⟨hk, hm⟩ | ⟨hk, c, hc, hcell⟩
  · exact wpAny_Name (wpAny_loadName_local I.ok.kind hk hn hm ⟨rfl, v, H, I, r, h⟩) hd
  · rcases hk with hk | hk
    · exact wpAny_Name (wpAny_loadName_cell I.ok.kind hk hc hcell ⟨rfl, v, H, I, r, h⟩) hd
    · exact wpAny_Name (wpAny_loadName_free I.ok.kind hk hc hcell ⟨rfl, v, H, I, r, h⟩ hcd) hd
theorem peg_int {i j pos} : PEg X (.Constant (.int i) j pos) (tC (.int i)) := fun _ _ _ H _ I h => wpAny_Constant_int ⟨rfl, .int i, H, I.tok _, ⟨_, rfl⟩, h⟩
/-- x is not None -/
theorem ptg_notNone {i : Nat} {x : Str} {pos p1 p2 : Pos} {j} (hN : X.N[i]? = some x) (hv : Vis X.env.scope x) (hd : (x == ("__debug__" : Str)) = false := by decide) (hcd : (x == ("__classdict__" : Str)) = false := by decide) :
    PTg X (.Compare (.Name x p1) [.IsNot] [.Constant .none j p2] pos) (fun σ H Q => ∃ v, σ[i]? = some (some v) ∧ Q (!decide (v = .non)) H) := by
  intro pins s σ H Q I h
  obtain ⟨v, e, q⟩ := h
  refine wpAny_isTrue_Compare1 (wpAny_mono (peg_var hN hv hd hcd pins s σ H (fun y H1 => y = v ∧ H1 = H) I ⟨v, e, rfl, rfl⟩) (fun u s1 h1 => ?_) fun _ _ z => z) (nobehind _ (by decide) (by decide))
  obtain ⟨g1, y, H1, I1, r1, ey, eH⟩ := h1
  subst ey eH
  refine Constant_none ?_
  refine isnot_none_gen ?_
  refine wpAny_truthy_bool ⟨g1, H1, I1, ?_⟩
  have ev : (!(u == Value.none)) = !decide (y = .non) := by
    cases y <;> first
      | (cases r1; rfl)
      | (obtain ⟨t, rfl⟩ := r1; rfl)
  rw [ev]
  exact q
/-- x[i] of a text -/
theorem peg_sign {a b : Expr} {ta tb : TE} {pos : Pos} (ha : PEg X a ta) (hb : PEg X b tb) (hs : PlainIx b) : PEg X (.Subscript a b pos) (tOp rIxS ta tb) := by
  intro pins s σ H Q I h
  refine Subscript_ (wpAny_mono (ha pins s σ H _ I h) (fun v s1 h1 => ?_) fun _ _ z => z)
  obtain ⟨g1, x, H1, I1, r1, h⟩ := h1
  refine wpAny_mono (hb pins s1 σ H1 _ I1 h) (fun u s2 h2 => ?_) fun _ _ z => z
  obtain ⟨g2, y, H2, I2, r2, h⟩ := h2
  obtain ⟨txt, at_, sg, rfl, rfl, _, hat, q⟩ := h
  obtain ⟨tk, rfl⟩ := r1
  obtain ⟨tk', rfl⟩ := r2
  obtain ⟨pl, p1, p2, p3, p4, p5⟩ := atI_get hat
  have hl : txt.cps.toList.length = txt.length := Array.length_toList
  rw [hl] at p1 p4 p5
  have big := line63
  refine tail_any (typeIs_str s2 txt tk) slot_str_getitem.lookup (getItem_str (c := sg) ?_ ?_ ⟨g2.trans g1, .str ⟨#[sg]⟩, H2, I2.tok _, ⟨_, rfl⟩, q⟩) (hs _ _)
  · rw [decide_eq_false (show ¬ (at_ < -(2 ^ 63 : Int)) by omega), decide_eq_false (show ¬ (at_ ≥ 2 ^ 63) by omega), Bool.or_false]
  · rw [p1]
    simpa using p2
/-- a text, so many times -/
theorem peg_rep {a b : Expr} {ta tb : TE} {pos : Pos} (ha : PEg X a ta) (hb : PEg X b tb) : PEg X (.BinOp a .Mult b pos) (tOp (fun x y H Q => ∃ (z : Str) (n : Nat), x = .str z ∧ y = .int n ∧ n * z.length ≤ sizeLine ∧ n < 2 ^ 62 ∧ Q (.str (repS z n)) H) ta tb) := by
  intro pins s σ H Q I h
  refine wpAny_BinOp (wpAny_mono (ha pins s σ H _ I h) (fun v s1 h1 => ?_) fun _ _ z => z)
  obtain ⟨g1, x, H1, I1, r1, h⟩ := h1
  refine wpAny_mono (hb pins s1 σ H1 _ I1 h) (fun u s2 h2 => ?_) fun _ _ z => z
  obtain ⟨g2, y, H2, I2, r2, h⟩ := h2
  obtain ⟨z, n, rfl, rfl, hz, hn, q⟩ := h
  obtain ⟨t, rfl⟩ := r1
  obtain ⟨t', rfl⟩ := r2
  have hline := sizeLine_eq
  have e0 : (List.replicate n z.cps).foldl (· ++ ·) #[] = (repS z n).cps := by
    have := flat_rep z.cps.toList n []
    simpa [repS] using this
  have fin : ∀ t' k, (fun u s' => s'.gens = s.gens ∧ EP X pins σ Q u s') (.str (repS z n) t') { s2 with toks := k } := fun t' k => ⟨g2.trans g1, .str (repS z n), H2, I2.tok _, ⟨t', rfl⟩, q⟩
  refine PySem.P.mul_str ?_ ?_ ?_ ?_
  · have h1 : ¬ ((n : Int) < -(2 ^ 63 : Int)) := by omega
    have h2 : ¬ ((n : Int) ≥ 2 ^ 63) := by omega
    rw [decide_eq_false h1, decide_eq_false h2]; rfl
  · intro h1 _
    have hn0 : 0 < n := by omega
    have hz' : z.length ≤ n * z.length := Nat.le_mul_of_pos_left _ hn0
    have hq : (2 ^ 63 - 1 : Int) / n ≥ z.length := by
      refine Int.le_ediv_of_mul_le (by omega) ?_
      have e : (z.length : Int) * (n : Int) = ((n * z.length : Nat) : Int) := by
        rw [Nat.mul_comm n z.length]; exact (Int.natCast_mul _ _).symm
      rw [e]
      omega
    omega
  · intro h1 _
    show decide (z.length * n > sizeLine) = false
    rw [Nat.mul_comm]
    exact decide_eq_false (by omega)
  · by_cases c1 : (n : Int) < 1
    · rw [if_pos c1]
      have hn0 : n = 0 := by omega
      subst hn0
      refine ⟨Nat.zero_le _, ?_⟩
      have e : Str.empty = repS z 0 := by simp [repS, Str.empty]
      rw [e]
      exact fin _ _
    · rw [if_neg c1]
      by_cases c2 : ((n : Int) == 1 || z.length == 0) = true
      · rw [if_pos c2]
        have e : z = repS z n := by
          rcases (Bool.or_eq_true _ _).mp c2 with k | k
          · have : n = 1 := by have := of_decide_eq_true k; omega
            subst this
            simp [repS]
          · have k' : z.length = 0 := by simpa using k
            have z0 : z.cps = #[] := Array.eq_empty_of_size_eq_zero k'
            obtain ⟨a⟩ := z
            simp only at z0
            subst z0
            simp [repS]
        exact ⟨g2.trans g1, .str z, H2, I2, ⟨t, rfl⟩, by rw [e]; exact q⟩
      · rw [if_neg c2]
        refine ⟨?_, ?_⟩
        · show ((List.replicate ((n : Int)).toNat z.cps).foldl (· ++ ·) #[]).size ≤ sizeLine
          rw [Int.toNat_natCast, e0]
          have := repS_length z n
          unfold Str.length at this
          rw [this]
          exact hz
        · have e1 : (⟨(List.replicate ((n : Int)).toNat z.cps).foldl (· ++ ·) #[]⟩ : Str) = repS z n := by
            rw [Int.toNat_natCast, e0]
          rw [e1]
          exact fin _ _
/-- a local name is stored -/
theorem psg_set {i : Nat} {x : Str} {e : Expr} {te : TE} {pos pos' : Pos} (hN : X.N.Nodup) (hi : X.N[i]? = some x) (hx : X.env.scope.names.lookup x = some .local) (he : PEg X e te) (hs : swapsWith e (some (.Name x pos')) pos.line X.env = pure false := by rfl)
    {D : Ends} (I : Inv X pins σ H s) (h : tAsg te (gName i) D σ H) : wpAny (model X.prog X.w) X.A (exec (.Assign [.Name x pos'] e pos) X.env) (fun f s' => s'.gens = s.gens ∧ SP X pins D f s') X.xe s := by
  refine wpAny_Assign_Name (wpAny_mono (he pins s σ H _ I h) (fun v s1 h1 => ?_) fun _ _ z => z) hs
  obtain ⟨g1, y, H1, I1, r1, q1⟩ := h1
  obtain ⟨m, hn, _⟩ := id I1.loc
  have hcls : (X.env.scope.kind == .class || (X.env.scope.kind == .module && X.env.locals != X.env.globals)) = false := by rw [I.ok.kind]; rfl
  refine wpAny_mono (wpAny_both (E1 := X.xe) (E2 := X.xe) (Q1 := fun _ s' => s'.gens = s1.gens) (Q2 := fun _ s' => SP X pins D .next s') (wpAny_storeName_local hx hn (fun h' _ _ => rfl) hcls)
    (store_ok I1 hN hi (.inl hx) r1 (fun s2 I2 => ⟨_, H1, I2, q1⟩) (.inr hx))) (fun _ s2 q => ⟨q.1.trans g1, q.2⟩) fun _ _ z => z.1
end
end Ami

set_option Elab.async false
set_option linter.all false
set_option maxRecDepth 100000
set_option maxHeartbeats 2000000
/-! a generator by its steps: a loop that hands out -/
namespace Ami
open PySem PySem.Spec PyProof.Rows L2 GenW
structure Gq (X : Cx) (A : Around) (c : Code) (fs : List Frame) (gd : Bool → Bool) : Prop where
  over : A.over c fs = X.A
  split : splitAtGen fs = none
  guard : fs.any Frame.guarded = false
  gd : gd false = false
/-- an end that wants one state alone -/
def onlyAt (σ1 : L2.St) (H : Hp) : Ends := { nx := fun σ' H' => σ' = σ1 ∧ H' = H, rt := fun _ _ => False, bk := fun _ _ => False, ct := fun _ _ => False }
section
variable {X : Cx} {A : Around} {R : GenEnd} {Y : Protocol} {n : Nat} {c : Code} {fs : List Frame} {K : Flow → Sem PySem.Fin} {J : Value → Sem PySem.Fin} {gd : Bool → Bool} {lv : List Value → List Value} {σ₀ σ σ1 : L2.St} {s₀ s : Shared} {st : Stmt}
theorem only_way {s' : Shared} {f : Flow} (ne : InvA X σ₀ s₀) (w : WayA X σ₀ s₀ σ s) (h : ∀ (i : Fits X σ₀ s₀), SP (atS X i.1.1 i.1.2.1) [] (onlyAt σ1 i.1.2.2) f s') : f = .next ∧ WayA X σ₀ s₀ σ1 s' := by
  obtain ⟨z0, h00, H0, I0⟩ := ne
  have h0 := h ⟨(z0, h00, H0), I0⟩
  cases f with
  | next =>
    refine ⟨rfl, fun z hh H I => ?_⟩
    obtain ⟨σ', H', I', e1, e2⟩ := h ⟨(z, hh, H), I⟩
    subst e1 e2
    exact I'
  | brk => obtain ⟨_, _, _, q⟩ := h0; exact q.elim
  | cont => obtain ⟨_, _, _, q⟩ := h0; exact q.elim
  | ret u => obtain ⟨_, _, _, _, _, q⟩ := h0; exact q.elim
theorem seg_psQ {t : TS} (h : ∀ z hh, PS (atS X z hh) st t) (hx : ∀ e s, ¬ X.xe e s) (g : Gq X A c fs gd) (ne : InvA X σ₀ s₀) (w : WayA X σ₀ s₀ σ s) (ht : ∀ H, t (onlyAt σ1 H) σ H)
    (k : ∀ s', WayA X σ₀ s₀ σ1 s' → Seg (model X.prog X.w) A R Y n s₀ c (K .next) fs s') : Seg (model X.prog X.w) A R Y n s₀ c ((exec st X.env).wrap K J gd lv) fs s := by
  obtain ⟨z0, h00, H0, I0⟩ := id ne
  refine seg_wrap ?_
  rw [g.over]
  refine wpAny_mono (wpAny_all (ι := Fits X σ₀ s₀) ⟨(z0, h00, H0), I0⟩ fun i => (h i.1.1 i.1.2.1).run [] s σ i.1.2.2 (onlyAt σ1 i.1.2.2) (w i.1.1 i.1.2.1 i.1.2.2 i.2) (ht i.1.2.2)) (fun f s' hs => ?_) fun e s' he => (hx e s' (he ⟨(z0, h00, H0), I0⟩)).elim
  obtain ⟨rfl, w'⟩ := only_way ne w hs
  exact k s' w'
/-- .. where the generators are left alone -/
theorem seg_psgQ {D : L2.St → Hp → Prop} (h : ∀ z hh H, Inv (atS X z hh) [] σ H s → wpAny (model X.prog X.w) X.A (exec st X.env) (fun f s' => s'.gens = s.gens ∧ SP (atS X z hh) [] (onlyAt σ1 H) f s') X.xe s) (hx : ∀ e s, ¬ X.xe e s) (g : Gq X A c fs gd) (ne : InvA X σ₀ s₀) (w : WayA X σ₀ s₀ σ s)
    (k : ∀ s', s'.gens = s.gens → WayA X σ₀ s₀ σ1 s' → Seg (model X.prog X.w) A R Y n s₀ c (K .next) fs s') : Seg (model X.prog X.w) A R Y n s₀ c ((exec st X.env).wrap K J gd lv) fs s := by
  obtain ⟨z0, h00, H0, I0⟩ := id ne
  refine seg_wrap ?_
  rw [g.over]
  refine wpAny_mono (wpAny_all (ι := Fits X σ₀ s₀) ⟨(z0, h00, H0), I0⟩ fun i => h i.1.1 i.1.2.1 i.1.2.2 (w i.1.1 i.1.2.1 i.1.2.2 i.2)) (fun f s' hs => ?_) fun e s' he => (hx e s' (he ⟨(z0, h00, H0), I0⟩)).elim
  obtain ⟨rfl, w'⟩ := only_way ne w fun i => (hs i).2
  exact k s' (hs ⟨(z0, h00, H0), I0⟩).1 w'
theorem gq_loop {c' : Code} {k : Result → Sem PySem.Fin} {l kp : List Value} {p : Pos} (g : Gq X A c fs gd) (hw : c'.weight = 0) (hu : c'.cUnits = 0) : Gq X A c' (.ret k none (gd false) l c p kp :: fs) id where
  over := (over_loop hw hu).trans g.over
  split := by rw [splitAtGen_ret, g.split]; rfl
  guard := by rw [List.any_cons, g.guard, Bool.or_false]; exact g.gd
  gd := rfl

variable {xs : List V} {σs head : Nat → L2.St} {test e : Expr} {yp py pos : Pos} {tt : TT} {te : TE} {ts : TS}
/-- while test: yield e; st -/
theorem seg_loopQ (hT : ∀ z h, PTg (atS X z h) test tt) (hE : ∀ z h, PEg (atS X z h) e te) (hS : ∀ z h, PS (atS X z h) st ts) (hx : ∀ e s, ¬ X.xe e s) (hco : X.env.scope.isCoroutine = false) (hi : interactive X.env = false) (hσ : ∀ k, k < xs.length → σs (k + 1) = head k)
    (go : ∀ k H, k < xs.length → tt (head k) H fun b H' => b = true ∧ H' = H) (stop : ∀ H, tt (head xs.length) H fun b H' => b = false ∧ H' = H)
    (out : ∀ k x H, xs[k]? = some x → te (head k) H fun v H' => v = x ∧ H' = H) (step : ∀ k H, k < xs.length → ts (onlyAt (head (k + 1)) H) (head k) H)
    (g : Gq X A c fs gd) (fin : ∀ s₀ s, WayA X (σs xs.length) s₀ (head xs.length) s → Seg (model X.prog X.w) A (RQ X xs σs) (YQ X xs σs) 0 s₀ c (K .next) fs s) :
    ∀ n k s₀ s, n + k = xs.length → InvA X (σs k) s₀ → WayA X (σs k) s₀ (head k) s → (k = 0 → s.gens = s₀.gens) →
      Seg (model X.prog X.w) A (RQ X xs σs) (YQ X xs σs) n s₀ c ((exec (.While test [.Expr (.Yield (some e) yp) py, st] [] pos) X.env).wrap K J gd lv) fs s := by
  intro n k s₀ s hn ne w hg
  refine seg_While fun p => ?_
  have gl := fun (kk : Result → Sem PySem.Fin) => gq_loop (k := kk) (c' := .whileLoop test [.Expr (.Yield (some e) yp) py, st] [] X.env) (l := lv []) (kp := []) (p := p) g rfl rfl
  revert k s₀ s
  induction n with
  | zero =>
    intro k s₀ s hn ne w hg
    obtain ⟨z0, h00, H0, I0⟩ := id ne
    have hk : k = xs.length := by omega
    subst hk
    refine seg_whileLoop ?_
    rw [(gl _).over]
    refine wpAny_mono (wpAny_all (ι := Fits X (σs xs.length) s₀) ⟨(z0, h00, H0), I0⟩ fun i => hT i.1.1 i.1.2.1 [] s _ i.1.2.2 _ (w i.1.1 i.1.2.1 i.1.2.2 i.2) (stop i.1.2.2)) (fun b s' hs => ?_) fun e s' he => (hx e s' (he ⟨(z0, h00, H0), I0⟩)).elim
    have hb : b = false := by
      obtain ⟨_, _, _, q, _⟩ := hs ⟨(z0, h00, H0), I0⟩
      exact q
    subst hb
    rw [if_neg Bool.false_ne_true]
    refine seg_execs_nil (seg_leaf (.ok .next) (fin s₀ s' fun z h H I => ?_))
    obtain ⟨_, H', I', _, q⟩ := hs ⟨(z, h, H), I⟩
    subst q
    exact I'
  | succ n ih =>
    intro k s₀ s hn ne w hg
    obtain ⟨z0, h00, H0, I0⟩ := id ne
    have hk : k < xs.length := by omega
    refine seg_whileLoop ?_
    rw [(gl _).over]
    refine wpAny_mono (wpAny_all (ι := Fits X (σs k) s₀) ⟨(z0, h00, H0), I0⟩ fun i => hT i.1.1 i.1.2.1 [] s _ i.1.2.2 _ (w i.1.1 i.1.2.1 i.1.2.2 i.2) (go k i.1.2.2 hk)) (fun b s1 hs => ?_) fun e s' he => (hx e s' (he ⟨(z0, h00, H0), I0⟩)).elim
    have hb : b = true := by
      obtain ⟨_, _, _, q, _⟩ := hs ⟨(z0, h00, H0), I0⟩
      exact q
    subst hb
    rw [if_pos rfl]
    have w1 : WayA X (σs k) s₀ (head k) s1 := fun z h H I => by
      obtain ⟨_, H', I', _, q⟩ := hs ⟨(z, h, H), I⟩
      subst q
      exact I'
    have g1 : s1.gens = s.gens := (hs ⟨(z0, h00, H0), I0⟩).1
    refine seg_execs_cons (seg_Expr_Yield (gl _).split rfl (gl _).guard ?_ hco hi)
    rw [(gl _).over]
    have hxk : xs[k]? = some xs[k] := List.getElem?_eq_getElem hk
    refine wpAny_mono (wpAny_all (ι := Fits X (σs k) s₀) ⟨(z0, h00, H0), I0⟩ fun i => hE i.1.1 i.1.2.1 [] s1 _ i.1.2.2 _ (w1 i.1.1 i.1.2.1 i.1.2.2 i.2) (out k _ i.1.2.2 hxk)) (fun v s2 hs2 => ?_) fun e s' he => (hx e s' (he ⟨(z0, h00, H0), I0⟩)).elim
    intro kap hkap
    have w2 : WayA X (σs k) s₀ (head k) s2 := fun z h H I => by
      obtain ⟨_, _, H', I', _, _, q⟩ := hs2 ⟨(z, h, H), I⟩
      subst q
      exact I'
    obtain ⟨g2, y, _, _, ry, ey, _⟩ := hs2 ⟨(z0, h00, H0), I0⟩
    subst ey
    refine ⟨k, xs[k], by omega, hxk, ry, by rw [hσ k hk]; exact w2, fun k0 => (g2.trans g1).trans (hg k0), ⟨z0, h00, H0, by rw [hσ k hk]; exact w2 z0 h00 H0 I0⟩, fun s' hI => hkap .none s' ?_⟩
    rw [hσ k hk] at hI
    show Seg _ _ _ _ _ _ _ _ _ _
    refine seg_execs_cons (seg_psQ hS hx (gl _) hI WayA.refl (fun H => step k H hk) fun s3 w3 => seg_execs_nil (seg_again rfl ?_))
    refine ih (k + 1) s' s3 (by omega) (by rw [hσ k hk]; exact hI) (by rw [hσ k hk]; exact w3) fun z => by omega
end
end Ami

set_option Elab.async false
set_option linter.all false
set_option maxRecDepth 100000
set_option maxHeartbeats 2000000
/-! a generator by its steps: waking it -/
namespace Ami
open PySem PySem.Spec PyProof.Rows L2 GenW
theorem at_set {s : Shared} {g : Nat} {x : GenState} (h : g < s.gens.size) : (s.setGen g x).gens[g]? = some x := by
  show (s.gens.setIfInBounds g x)[g]? = some x
  simp [h]
theorem at_set_ne {s : Shared} {g n : Nat} {x : GenState} (h : n ≠ g) : (s.setGen g x).gens[n]? = s.gens[n]? := by
  show (s.gens.setIfInBounds g x)[n]? = _
  rw [Array.getElem?_setIfInBounds_ne (Ne.symm h)]
theorem inBounds {s : Shared} {g : Nat} {x : GenState} (h : s.gens[g]? = some x) : g < s.gens.size := (Array.getElem?_eq_some_iff.mp h).1
/-- its frames are its own -/
def Nice : GenState → Prop
  | .suspended _ _ _ _ fs _ => splitAtGen fs = none
  | _ => True
theorem nice_end {e : End} (h : EndNice e) : Nice e.genState := by
  cases e with
  | ret _ => exact trivial
  | susp v g l k c p fs => exact h
def GoesOn (M : Model) (A : Around) (R : GenEnd) (Y : Protocol) : Nat → GenState → Resume → Shared → Prop
  | 0, _, _, _ => False
  | m + 1, gs, r, s => gs.Goes M A R Y m r s
/-- waking a generator, while none of the others can wake -/
theorem wpAny_resumeA {M : Model} {A : Around} {R : GenEnd} {Y : Protocol} {n : Nat} {E : Value → Shared → Prop} {s : Shared} {g : Nat} {gs : GenState} {r : Resume} {l : List Value} {α : Type} {k : GenResult → Sem α} {Q : α → Shared → Prop}
    (hg : s.gens[g]? = some gs) (hn : Nice gs) (hgo : gs.Goes M A R Y n r (numbed (s.setGen g .running)))
    (hR : ∀ x s1 z, Awake (s.setGen g .running) s1 z → R n (numbed (s.setGen g .running)) x z → wpAny M A (k (End.ret x).result) Q E (s1.setGen g .finished))
    (hY : ∀ v s1 z gs', gs'.bare = true → Nice gs' → Sleeps gs' = true → Awake (s.setGen g .running) s1 z → Y (n - 1) (numbed (s.setGen g .running)) v z (fun r' s'' => GoesOn M A R Y n gs' r' s'') →
      wpAny M A (k (.yielded v)) Q E (s1.setGen g gs')) : wpAny M A (.resume g r l k) Q E s := by
  intro Γ p hΓ
  rw [Sem.wp_resume]
  have fin : ∀ e1 s1 z, Awake (s.setGen g .running) s1 z → EndNice e1 → SegEnd R Y n (Seg.next M A R Y n) (numbed (s.setGen g .running)) e1 z →
      e1.quiet = true ∧ Sem.wp M Γ (k e1.result) (fun a _ s' => Q a s') (fun e _ s' => E e s') p (s1.setGen g e1.genState) := by
    intro e1 s1 z aw hne he
    cases e1 with
    | ret x => exact ⟨rfl, hR x s1 z aw he Γ p hΓ⟩
    | susp v g0 l0 k0 c0 p0 fs0 =>
      refine ⟨he.1, hY v s1 z _ (End.bare_of_quiet he.1) (nice_end hne) rfl aw ?_ Γ p hΓ⟩
      cases n with
      | zero => exact he.2
      | succ m => exact he.2
  have run : ∀ {Γ' : PySem.Ctx} {p'} {t} {fs}, splitAtGen fs = none → (∃ e z, Runs M Γ' p' t fs (numbed (s.setGen g .running)) e z ∧ SegEnd R Y n (Seg.next M A R Y n) (numbed (s.setGen g .running)) e z) →
      ∃ e s1, Runs M Γ' p' t fs (s.setGen g .running) e s1 ∧ e.quiet = true ∧ Sem.wp M Γ (k e.result) (fun a _ s' => Q a s') (fun e _ s' => E e s') p (s1.setGen g e.genState) := by
    rintro Γ' p' t fs hfs ⟨e, z, hr, he⟩
    obtain ⟨N, ne, hr'⟩ := runs_keep (G := (s.setGen g .running).gens) hr (numb_numbed _) hfs
    rw [lift_numbed] at hr'
    obtain ⟨q1, q2⟩ := fin e _ z (Awake.of N) ne he
    exact ⟨e, _, hr', q1, q2⟩
  cases gs with
  | fresh c =>
    obtain ⟨rfl, hs⟩ := hgo
    obtain ⟨e, s1, hr, hq, hw⟩ := run rfl (seg_iff.mp hs (Γ.wake c p) p rfl (hΓ.wake c p))
    exact ⟨_, _, by unfold Wakes; rw [hg]; exact ⟨e, s1, hr, hq, rfl, rfl⟩, hw⟩
  | suspended k0 l0 c0 p0 fs0 cl =>
    obtain ⟨e, s1, hr, hq, hw⟩ := run hn (seg_iff.mp hgo (Γ.wake c0 p) p0 rfl (hΓ.wake c0 p))
    exact ⟨_, _, by unfold Wakes; rw [hg]; exact ⟨e, s1, hr, hq, rfl, rfl⟩, hw⟩
  | running => exact hgo.elim
  | finished => exact hgo.elim

/-- the state's generators are others, all else is as it was -/
theorem Inv.gens {X : Cx} {pins : List (Addr × Obj)} {σ : L2.St} {H : Hp} {s s' : Shared} (I : Inv X pins σ H s) (h : s'.heap = s.heap) (o : s'.os = s.os) (b : AllBare s'.gens) : Inv X pins σ H s' := by
  obtain ⟨hh, gg, dd, tt, oo⟩ := s'
  cases h
  cases o
  exact ⟨I.ok, I.os, b, I.base, I.loc, I.cell, I.free, I.freeC, I.pin, I.hok, I.len⟩
theorem bare_set {s : Shared} {g : Nat} {x : GenState} (h : AllBare s.gens) (hx : x.bare = true) : AllBare (s.setGen g x).gens := allBare_setGen h hx

/-- what holds of a generator for good -/
structure GenOk (X : Cx) (A : Around) (xs : List V) (σs : Nat → L2.St) (a L : Addr) : Prop where
  ok : X.Ok
  bare : Bare X
  loc : X.env.locals = L
  len : ∀ j, j ≤ xs.length → (σs j).length = X.N.length
  hd : A.handled = none
  dp : A.depth < recursionLimit
  ne : a ≠ L
  nf : a ∉ X.fs
/-- the generator at a (its number is g) ahead of its k-th item -/
structure GenAt (X : Cx) (A : Around) (xs : List V) (σs : Nat → L2.St) (a : Addr) (g k : Nat) (s : Shared) : Prop where
  gen : s.heap.IsGen a g
  frm : Frm X (σs k) s.heap
  st : ∃ gs, s.gens[g]? = some gs ∧ gs.bare = true ∧ Nice gs ∧ (0 < k → Sleeps gs = true) ∧ ∀ s', InvA X (σs k) s' → gs.Goes (model X.prog X.w) A (RQ X xs σs) (YQ X xs σs) (xs.length - k) (.send .none) s'
/-- over another older state -/
theorem GenAt.at {X : Cx} {A : Around} {xs : List V} {σs : Nat → L2.St} {a : Addr} {g k : Nat} {s : Shared} (z : Shared) (h : Hp) (G : GenAt X A xs σs a g k s) : GenAt (atS X z h) A xs σs a g k s := ⟨G.gen, G.frm, G.st⟩
theorem GenAt.un {X : Cx} {A : Around} {xs : List V} {σs : Nat → L2.St} {a : Addr} {g k : Nat} {s : Shared} {z : Shared} {h : Hp} (G : GenAt (atS X z h) A xs σs a g k s) : GenAt X A xs σs a g k s := ⟨G.gen, G.frm, G.st⟩
/-- the other generators are as they were: those that sleep; all -/
def Others (g : Nat) (s s' : Shared) : Prop := ∀ (i : Nat) (y : GenState), i ≠ g → s.gens[i]? = some y → Sleeps y = true → s'.gens[i]? = some y
def Others0 (g : Nat) (s s' : Shared) : Prop := ∀ (i : Nat) (y : GenState), i ≠ g → s.gens[i]? = some y → s'.gens[i]? = some y
section
variable {X : Cx} {A : Around} {xs : List V} {σs : Nat → L2.St} {a L : Addr} {g k : Nat} {s : Shared}
/-- foreign work leaves it as it is -/
theorem GenAt.keep {s' : Shared} (G : GenAt X A xs σs a g k s) (hL : ∀ o, s.heap.get? X.env.locals = some o → s'.heap.get? X.env.locals = some o) (ha : ∀ o, s.heap.get? a = some o → s'.heap.get? a = some o) (hg : ∀ gs, s.gens[g]? = some gs → (0 < k → Sleeps gs = true) → s'.gens[g]? = some gs) : GenAt X A xs σs a g k s' := by
  obtain ⟨⟨o, nm, qn, ho, r⟩, F, gs, e, b, n, sl, go⟩ := G
  exact ⟨⟨o, nm, qn, ha o ho, r⟩, F.keep hL, gs, hg gs e sl, b, n, sl, go⟩
theorem GenAt.inv (G : GenAt X A xs σs a g k s) (O : GenOk X A xs σs a L) (hk : k ≤ xs.length) {H : Hp} (os : s.os = X.s_0.os) (bare : AllBare s.gens) (u : Un X.fs [] X.H_0 H X.s_0.heap s.heap) (hL : H L = none) (hok : HOk X.prog X.w H s.heap) : Inv X [] (σs k) H s :=
  G.frm.inv O.bare O.ok os bare u (by rw [O.loc]; exact hL) hok (O.len k hk)
/-- woken: the k-th item -/
theorem gen_item {H : Hp} {E : Value → Shared → Prop} {Q : PySem.Fin → Shared → Prop} {x : V} (G : GenAt X A xs σs a g k s) (O : GenOk X A xs σs a L) (hx : xs[k]? = some x) (I : Inv X [] (σs k) H s) (ha : H a = none)
    (hQ : ∀ v s', RelV x v → GenAt X A xs σs a g (k + 1) s' → Way X (σs k) s (σs (k + 1)) s' → Others g s s' → (k = 0 → Others0 g s s') → Q (.done (.ret v)) s') :
    wpAny (model X.prog X.w) A (Builtin.Generator.genWake (.ref a) (.send .none)) Q E s := by
  obtain ⟨hgen, frm, gs, hgs, hb, hn, hsl, go⟩ := id G
  have hk : k < xs.length := (List.getElem?_eq_some_iff.mp hx).1
  have hgl : g < s.gens.size := inBounds hgs
  have hr : AllBare (s.setGen g .running).gens := bare_set I.bare rfl
  have Ir : Inv X [] (σs k) H (numbed (s.setGen g .running)) := Inv.gens I rfl rfl (numbed_bare hr)
  have hgo := go _ (InvA.of Ir)
  unfold Builtin.Generator.genWake
  refine wpAny_bind (wpAny_holding (wpAny_genNumber hgen (wpAny_bind (wpAny_genState hgs ?_))))
  have main : wpAny (model X.prog X.w) A (.resume g (.send .none) [] fun r => (match r with
      | .yielded v => ret v
      | .returned v => do
        if v == .none then raiseNew (← newExc (.type "StopIteration") [])
        rule "generator.return-value"; throw (← newExc (.type "StopIteration") [v])
      | .raised e => Builtin.Generator.genLeft (.ref a) e
      | .running => do rule "generator.already-executing"; raiseError "ValueError" "generator already executing"
      | .justStarted => do rule "generator.send-to-fresh"; raiseError "TypeError" "can't send non-None value to a just-started generator"
      | .finished => do raiseNew (← newExc (.type "StopIteration") []) : Sem PySem.Fin)) Q E s := by
    refine wpAny_resumeA hgs hn hgo (fun x s1 z aw hx => ?_) fun v s1 z gs' hb' hn' hs' aw hy => ?_
    · exact absurd hx.1 (by omega)
    · obtain ⟨k', x', hk', hx', rv, way, g0, _, kap⟩ := hy
      have ek : k' = k := by omega
      subst ek
      rw [hx] at hx'
      cases hx'
      have back : ∀ H', Inv X [] (σs k') H' s → Inv X [] (σs (k' + 1)) H' (s1.setGen g gs') := fun H' I' => by
        have J := way.own H' (Inv.gens I' rfl rfl (numbed_bare (bare_set I'.bare rfl)))
        exact Inv.gens J aw.heap aw.os (bare_set (aw.bare hr J.bare) hb')
      have J := back H I
      have hsz : g < s1.gens.size := by
        have e1 : (s.setGen g .running).gens.size = s.gens.size := setGen_size _ _ _
        have e2 := aw.grow
        omega
      have kept := Way.keeps O.bare back I
      refine wpAny_pure (hQ v _ rv ⟨?_, Frm.of O.bare J, gs', at_set hsz, hb', hn', fun _ => hs', fun s' hI => ?_⟩ back (fun i y hi e hy => ?_) fun k0 i y hi e => ?_)
      · obtain ⟨o, nm, qn, ho, r⟩ := hgen
        exact ⟨o, nm, qn, kept.keep a o ho ha O.nf (by rw [O.loc]; simpa using O.ne), r⟩
      · have q := kap s' hI
        have e : xs.length - k' = (xs.length - (k' + 1)) + 1 := by omega
        rw [e] at q
        exact q
      · rw [at_set_ne hi]
        exact aw.keep i y ((at_set_ne hi).trans e) hy
      · rw [at_set_ne hi, aw.same (g0 k0)]
        exact (at_set_ne hi).trans e
  cases gs with
  | running => exact hgo.elim
  | finished => exact hgo.elim
  | _ =>
    refine wpAny_bind (wpAny_roomToWake I.nolimit O.dp ?_)
    exact main
/-- woken once more: it ends -/
theorem gen_done {H : Hp} {E : Value → Shared → Prop} {Q : PySem.Fin → Shared → Prop} (G : GenAt X A xs σs a g k s) (O : GenOk X A xs σs a L) (hk : k = xs.length) (I : Inv X [] (σs k) H s)
    (hE : ∀ e s', s'.os = s.os → AllBare s'.gens → Un X.fs [L] H H s.heap s'.heap → HOk X.prog X.w H s'.heap → (∃ o, s'.heap.get? e = some o ∧ o.cls = .type "StopIteration") → E (.ref e) s') :
    wpAny (model X.prog X.w) A (Builtin.Generator.genWake (.ref a) (.send .none)) Q E s := by
  subst hk
  obtain ⟨hgen, frm, gs, hgs, hb, hn, hsl, go⟩ := id G
  have hr : AllBare (s.setGen g .running).gens := bare_set I.bare rfl
  have Ir : Inv X [] (σs xs.length) H (numbed (s.setGen g .running)) := Inv.gens I rfl rfl (numbed_bare hr)
  have hgo := go _ (InvA.of Ir)
  unfold Builtin.Generator.genWake
  refine wpAny_bind (wpAny_holding (wpAny_genNumber hgen (wpAny_bind (wpAny_genState hgs ?_))))
  have main : wpAny (model X.prog X.w) A (.resume g (.send .none) [] fun r => (match r with
      | .yielded v => ret v
      | .returned v => do
        if v == .none then raiseNew (← newExc (.type "StopIteration") [])
        rule "generator.return-value"; throw (← newExc (.type "StopIteration") [v])
      | .raised e => Builtin.Generator.genLeft (.ref a) e
      | .running => do rule "generator.already-executing"; raiseError "ValueError" "generator already executing"
      | .justStarted => do rule "generator.send-to-fresh"; raiseError "TypeError" "can't send non-None value to a just-started generator"
      | .finished => do raiseNew (← newExc (.type "StopIteration") []) : Sem PySem.Fin)) Q E s := by
    refine wpAny_resumeA hgs hn hgo (fun x s1 z aw hx => ?_) fun v s1 z gs' hb' hn' hs' aw hy => ?_
    · obtain ⟨_, hres, σ', way⟩ := hx
      have hret : End.result (.ret x) = .returned .none := by
        rcases hres with h | h <;> rw [h] <;> rfl
      rw [hret]
      have back : Way X (σs xs.length) s σ' (s1.setGen g .finished) := fun H' I' => by
        have J := way.own H' (Inv.gens I' rfl rfl (numbed_bare (bare_set I'.bare rfl)))
        exact Inv.gens J aw.heap aw.os (bare_set (aw.bare hr J.bare) rfl)
      have J := back H I
      have kept := Way.keeps O.bare back I
      show wpAny _ A (newExc (.type "StopIteration") [] >>= _) _ _ _
      refine wpAny_bind ?_
      simp only [newExc, newTuple]
      refine wpAny_bind (wpAny_newObj_type ?_ (by size_fits))
      refine wpAny_bind (m := firstArgMember _ _) (wpAny_of_eq (a := Value.none) (by first | rfl | (simp only [firstArgMember]; rfl)) ?_)
      refine wpAny_newObj_type ?_ (by size_fits)
      simp only [raiseNew]
      refine wpAny_bind (wpAny_bind (wpAny_handled ?_))
      rw [O.hd]
      refine wpAny_throw ?_
      refine hE _ _ (J.os.trans I.os.symm) J.bare ?_ ?_ ⟨_, Heap.get?_push_size _ rfl, rfl⟩
      · rw [O.loc] at kept
        exact Un.trans kept (Un.kept fun b o e => Heap.get?_push_of_some _ (Heap.get?_push_of_some _ e))
      · exact J.hok.kept fun b o e => Heap.get?_push_of_some _ (Heap.get?_push_of_some _ e)
    · obtain ⟨k', x', _, _, _, _, _, hI, kap⟩ := hy
      have no := kap _ hI
      rw [Nat.sub_self] at no
      exact no.elim
  cases gs with
  | running => exact hgo.elim
  | finished => exact hgo.elim
  | _ =>
    refine wpAny_bind (wpAny_roomToWake I.nolimit O.dp ?_)
    exact main
end
end Ami

set_option Elab.async false
set_option linter.all false
set_option maxRecDepth 100000
set_option maxHeartbeats 2000000
/-! a generator by its steps: making it -/
namespace Ami
open PySem PySem.Spec PyProof.Rows L2 GenW
/-- what a call of a generator def gives: a generator ahead of its first item -/
def Born (P : Program) (w : World) (K : PySem.W.Frag) (mg : Str → Option Value) (base : Heap) (k : Nat) (outer : List Env) (H : Hp) (s : Shared) (xs : List V) (u : Value) (s' : Shared) : Prop :=
  ∃ (a L : Addr) (g : Nat) (Xf : Around → Shared → Cx) (σs : Nat → L2.St), u = .ref a ∧ s.heap.objs.size ≤ L ∧ L < s'.heap.objs.size ∧ s.heap.objs.size ≤ a ∧ a < s'.heap.objs.size ∧ a ≠ L ∧ s'.os = s.os ∧ AllBare s'.gens ∧
    (∀ b o, s.heap.get? b = some o → s'.heap.get? b = some o) ∧ (∀ (i : Nat) (y : GenState), s.gens[i]? = some y → s'.gens[i]? = some y) ∧ g = s.gens.size ∧ (∀ A s₀, (Xf A s₀).base = base ∧ (Xf A s₀).outer = outer ∧ (Xf A s₀).K = K) ∧
    ∀ (A A0 : Around) (s₀ : Shared), Room (k + 1) A → A.frames = some outer → Env1 base outer s₀ H → s₀.heap.objs.size ≤ s.heap.objs.size → s.os = s₀.os → Un (frs outer) [] H H s₀.heap s.heap →
      (Xf A s₀).prog = P ∧ (Xf A s₀).w = w ∧ (Xf A s₀).fs = frs outer ∧ (Xf A s₀).s_0 = s₀ ∧ (Xf A s₀).H_0 = H ∧ GenOk (Xf A s₀) A xs σs a L ∧ GenAt (Xf A s₀) A xs σs a g 0 s'
/-- a generator def's promise: with these arguments it hands out these items, one by one -/
abbrev SpQ := List V → Hp → List V → Prop
structure QFn (P : Program) (w : World) (K : PySem.W.Frag) (mg : Str → Option Value) (base : Heap) (k : Nat) (f : Addr) (fd : FuncData) (ps : List Str) (sp : SpQ) : Prop where
  len : ∀ vs H xs, sp vs H xs → vs.length = ps.length
  run : ∀ (A : Around) (outer : List Env) (s : Shared) (H : Hp) (args : Args) (us : List Value) (vs xs : List V), A.depth < recursionLimit → A.handled = none → Env0 P w K mg base A outer s H → BindsTo s fd args (ps.zip us) → Vals vs us → sp vs H xs →
    codeAny (model P w) A (.call (.ref f) args) (fun r s' => match r with | .ok (.ret u) => Born P w K mg base k outer H s xs u s' | _ => False) s
theorem qfn_of {P : Program} {w : World} {K : PySem.W.Frag} {mg : Str → Option Value} {base : Heap} {k : Nat} {f : Addr} {name qual : Str} {params : Arguments} {body : List Stmt} {scope : Scope} {dV kV doc pm cdv ct oc : Value} {an od : Option Addr}
    {osl : Array (Option Value)} {N ps : List Str} {sp : SpQ} (lk : K.lookup f = some ⟨oc, od, .func (PySem.W.fnOf name qual params body scope dV kV doc pm an cdv ct), osl⟩) (hcd : PySem.W.codeIn K cdv qual = true) (S : GScope N ps scope)
    (hcells : ∀ n, cellsFrom n scope.names [] = []) (len : ∀ vs H xs, sp vs H xs → vs.length = ps.length)
    (hbody : ∀ (vs xs : List V) (H : Hp), sp vs H xs → ∃ σs : Nat → L2.St, σs 0 = start N vs ∧ (∀ j, j ≤ xs.length → (σs j).length = N.length) ∧ ∀ (A : Around) (outer : List Env) (s s₀ : Shared),
      Room k (A.deeper (envOfC qual scope s.heap.objs.size f cdv)) → ∀ s1, InvA (gcx P w K mg base N qual scope f cdv A outer s s₀ H) (σs 0) s1 →
      Seg (model P w) A (RQ (gcx P w K mg base N qual scope f cdv A outer s s₀ H) xs σs) (YQ (gcx P w K mg base N qual scope f cdv A outer s s₀ H) xs σs) xs.length s1 (.func body (envOfC qual scope s.heap.objs.size f cdv))
        ((execs body (envOfC qual scope s.heap.objs.size f cdv)).wrap (fun f => .pure (.done (.ret (match f with | .ret v => v | _ => .none)))) (fun e => (leaving (envOfC qual scope s.heap.objs.size f cdv) e).wrap (fun _ => .raise e) .raise id id) id id) [] s1) :
    QFn P w K mg base k f (PySem.W.fnOf name qual params body scope dV kV doc pm an cdv ct) ps sp := by
  refine ⟨len, fun A outer s H args us vs xs hdp hhd e0 hb r hsp => ?_⟩
  have hl := len _ _ _ hsp
  have KX : K.In s.heap := e0.mod.kin.keeps fun b o e => (e0.bs b o e).1
  have lim : s.heap.NoLimit := e0.mod.nolimit.keeps fun b o e => (e0.bs b o e).1
  have hkind : ∀ y ∈ ps.zip us, scope.names.lookup y.1 = some .local ∨ (scope.names.lookup y.1 = some .cell ∧ ((cellsFrom (s.heap.objs.size + 1) scope.names []).lookup y.1).isSome = true) := fun y hy => by
    rcases S.par y.1 (List.of_mem_zip hy).1 with q | q
    · exact .inl q
    · exact .inr ⟨q, PySem.W.cellsFrom_some _ _ _ (.inl q)⟩
  refine codeAny_call_generator hdp (KX _ _ lk) rfl S.co S.gen rfl (PySem.W.codeRec_of KX hcd) (hb _ _ _ _ ?_)
  refine wpAny_newFunctionEnv_cells S.kind hkind fun env he s1 x => ?_
  subst he
  have lim1 : s1.heap.NoLimit := lim.keeps x.toInCall.keep
  refine ⟨lim1, ?_⟩
  obtain ⟨h1, tk, es1, hk1⟩ := x.done
  have os1 : s1.os = s.os := by rw [es1]
  have gen1 : s1.gens = s.gens := by rw [es1]
  have lt1 : s.heap.objs.size < s1.heap.objs.size := x.toInCall.ns.lt
  have kp1 : ∀ b o, s.heap.get? b = some o → s1.heap.get? b = some o := x.toInCall.keep
  obtain ⟨σs, h0, hlen, seg⟩ := hbody vs xs H hsp
  refine ⟨s1.heap.objs.size, s.heap.objs.size, s1.gens.size, fun A' s₀ => gcx P w K mg base N qual scope f cdv A' outer s s₀ H, σs, rfl, Nat.le_refl _, ?_, Nat.le_of_lt lt1, ?_, Nat.ne_of_gt lt1, os1, ?_, fun b o e => Heap.get?_push_of_some _ (kp1 b o e), fun i y e => ?_, by rw [gen1], fun _ _ => ⟨rfl, rfl, rfl⟩, ?_⟩
  · show _ < (s1.heap.push _).objs.size
    rw [Heap.size_push]; exact Nat.lt_succ_of_lt lt1
  · show _ < (s1.heap.push _).objs.size
    rw [Heap.size_push]; exact Nat.lt_succ_self _
  · exact AllBare.push (by rw [gen1]; exact e0.bare) rfl
  · show (s1.gens.push _)[i]? = _
    rw [gen1]
    have hi : i < s.gens.size := (Array.getElem?_eq_some_iff.mp e).1
    rw [Array.getElem?_push, if_neg (by omega)]
    exact e
  · intro A' A0 s₀ hr hfr eb hz ho u
    have e0w : Env0 P w K mg base A' outer s H := ⟨hfr, e0.mod, e0.bs, e0.bsz, e0.funs, e0.frf, e0.hok, e0.bare⟩
    have I1 : Inv (gcxOf P w K mg base N qual scope f cdv A' outer s H E0 []) [] (start N vs) H s1 := inv_startG S hr.hd e0w hl r x
    have u1 : Un (frs outer) [] H H s₀.heap s1.heap := u.trans (Un.kept kp1)
    have I2 := inv_gcx I1 eb hz (os1.trans ho) u1
    have B : Bare (gcx P w K mg base N qual scope f cdv A' outer s s₀ H) := ⟨hcells _, rfl, rfl⟩
    refine ⟨rfl, rfl, rfl, rfl, rfl, ⟨I2.ok, B, rfl, hlen, hr.hd, by have := hr.dp; omega, Nat.ne_of_gt lt1, fun hm => ?_⟩, ⟨⟨_, _, _, Heap.get?_push_size _ rfl, rfl, rfl, rfl⟩, ?_, _, Array.getElem?_push_size .., rfl, trivial, fun z => (by omega), fun s' hI => ⟨rfl, ?_⟩⟩⟩
    · obtain ⟨_, o, ho', _⟩ := e0.funs.mem hm
      exact absurd (Nat.lt_of_lt_of_le (Heap.lt_size ho') (Nat.le_of_lt lt1)) (Nat.lt_irrefl _)
    · rw [h0]
      exact (Frm.of B I2).keep fun o e => Heap.get?_push_of_some _ e
    · refine seg_func ?_
      rw [Nat.sub_zero]
      exact seg A' outer s s₀ (hr.deeper _) s' hI
end Ami

set_option Elab.async false
set_option linter.all false
set_option maxRecDepth 100000
set_option maxHeartbeats 2000000
/-! zip of any two iterators: its steps, by theirs -/
namespace Ami
open PySem PySem.Spec PyProof.Rows L2
/-- a zip object of two, the tuple of its iterators at TI, its own tuple at TO -/
abbrev ZipAt (h : Heap) (z TI TO : Addr) (f0 f1 : Value) : Prop := h.get? z = some { cls := .type "zip", dict := none, data := .fields #[f0, f1, .bool false, .ref TI, .ref TO], slots := #[] }
section
variable {prog : Program} {w : World} {A : Around} {E : Value → Shared → Prop} {s : Shared} {z TI TO i1 i2 : Addr} {f0 f1 : Value}
/-- its own tuple is free: it is handed out anew -/
theorem zip_free {a b : Value} {b1 : Bool} {Q : Value → Shared → Prop} {P1 : Value → Shared → Prop} {P2 : Value → Value → Shared → Prop} (hTOz : TO ≠ z) (hTIz : TI ≠ z) (hz : ZipAt s.heap z TI TO .none (.bool b1)) (hTI : IsPair s.heap TI (.ref i1) (.ref i2)) (hTO : IsPair s.heap TO a b)
    (h1 : ∀ h', ZipAt h' z TI TO .ellipsis (.bool b1) → Heap.SameBut z s.heap h' → wpAny (model prog w) A (Builtin.SmallTypes.nextOf (.ref i1)) P1
      (fun e s' => ZipAt s'.heap z TI TO .ellipsis (.bool b1) ∧ ∀ h', Heap.SameBut z s'.heap h' → E e { s' with heap := h' }) { s with heap := h' })
    (h2 : ∀ x s2, P1 x s2 → ZipAt s2.heap z TI TO .ellipsis (.bool b1) ∧ IsPair s2.heap TO a b ∧ ∀ h', IsPair h' TO x b → Heap.SameBut TO s2.heap h' → wpAny (model prog w) A (Builtin.SmallTypes.nextOf (.ref i2)) (P2 x)
      (fun e s' => ZipAt s'.heap z TI TO .ellipsis (.bool b1) ∧ ∀ h', Heap.SameBut z s'.heap h' → E e { s' with heap := h' }) { s2 with heap := h' })
    (h3 : ∀ x y s4, P2 x y s4 → ZipAt s4.heap z TI TO .ellipsis (.bool b1) ∧ IsPair s4.heap TO x b ∧ ∀ h', ZipAt h' z TI TO (rawInt s4.heap.objs.size) (.bool false) → IsPair h' TO x y → IsPair h' s4.heap.objs.size x y → h'.objs.size = s4.heap.objs.size + 1 →
      (∀ c o, c ≠ z → c ≠ TO → s4.heap.get? c = some o → h'.get? c = some o) → Q (.ref s4.heap.objs.size) { s4 with heap := h' }) :
    wpAny (model prog w) A (Builtin.«zip.__next__» ⟨[.ref z], []⟩) (fun fin s' => ∃ v, fin = .done (.ret v) ∧ Q v s') E s := by
  show wpAny _ _ (field (.ref z) 2 >>= _) _ _ _
  refine wpAny_bind (wpAny_field hz rfl (x := .bool false) rfl ?_)
  show wpAny _ _ (field (.ref z) 3 >>= _) _ _ _
  refine wpAny_bind (wpAny_field hz rfl (x := .ref TI) rfl ?_)
  refine wpAny_bind (wpAny_seqItems hTI rfl ?_)
  show wpAny _ _ (Builtin.SmallTypes.ownedTupleIsFree (.ref z) >>= _) _ _ _
  refine wpAny_bind ?_
  unfold Builtin.SmallTypes.ownedTupleIsFree
  refine wpAny_bind (wpAny_field hz rfl (x := .none) rfl (wpAny_pure ?_))
  simp only [if_true]
  refine wpAny_bind (wpAny_rule ?_)
  refine wpAny_bind (wpAny_field hz rfl (x := .ref TO) rfl ?_)
  refine wpAny_bind (wpAny_setField_rec hz (by simp) fun ha hza hsa => ?_)
  replace hza : ZipAt ha z TI TO .ellipsis (.bool b1) := hza
  refine wpAny_bind ?_
  simp only [List.zipIdx_cons, List.zipIdx_nil, List.forIn_cons, List.forIn_nil]
  refine wpAny_bind (wpAny_bind (wpAny_onRaise ?_))
  show wpAny _ _ (Builtin.SmallTypes.nextOf (.ref i1) >>= _) _ _ _
  refine wpAny_bind (wpAny_mono (h1 ha hza hsa) (fun x s2 q => wpAny_pure ?_) fun e s' q => ?_)
  · obtain ⟨hz2, hTO2, k2⟩ := h2 x s2 q
    refine wpAny_bind (wpAny_seqItems hTO2 rfl ?_)
    refine wpAny_bind (wpAny_updateSeq_pair hTO2 fun hb hTOb hsb => ?_)
    replace hTOb : IsPair hb TO x b := hTOb
    refine wpAny_bind (wpAny_letGo (wpAny_pure ?_))
    refine wpAny_bind (wpAny_bind (wpAny_onRaise ?_))
    show wpAny _ _ (Builtin.SmallTypes.nextOf (.ref i2) >>= _) _ _ _
    refine wpAny_bind (wpAny_mono (k2 hb hTOb hsb) (fun y s4 q => wpAny_pure ?_) fun e s' q => ?_)
    · obtain ⟨hz4, hTO4, k4⟩ := h3 x y s4 q
      refine wpAny_bind (wpAny_seqItems hTO4 rfl ?_)
      refine wpAny_bind (wpAny_updateSeq_pair hTO4 fun hc hTOc hsc => ?_)
      replace hTOc : IsPair hc TO x y := hTOc
      refine wpAny_bind (wpAny_letGo (wpAny_pure (wpAny_pure ?_)))
      refine wpAny_bind (wpAny_seqItems hTOc rfl ?_)
      refine wpAny_bind (wpAny_newTuple ?_)
      have hzc : ZipAt hc z TI TO .ellipsis (.bool b1) := (hsc.2 _ (Ne.symm hTOz)).trans hz4
      have hsz : hc.objs.size = s4.heap.objs.size := hsc.1
      show wpAny _ _ (Builtin.SmallTypes.ownedTupleHandOut (.ref z) (.ref hc.objs.size) >>= _) _ _ _
      refine wpAny_bind ?_
      unfold Builtin.SmallTypes.ownedTupleHandOut
      have hzd : ZipAt (hc.push { cls := .type "tuple", data := .seq #[x, y] }) z TI TO .ellipsis (.bool b1) := Heap.get?_push_of_some _ hzc
      refine wpAny_bind (wpAny_setField_rec hzd (by simp) fun he hze hse => ?_)
      replace hze : ZipAt he z TI TO (rawInt hc.objs.size) (.bool b1) := hze
      refine wpAny_setField_rec hze (by simp) fun hf hzf hsf => ?_
      replace hzf : ZipAt hf z TI TO (rawInt hc.objs.size) (.bool false) := hzf
      have up : ∀ c o, c ≠ z → hc.get? c = some o → hf.get? c = some o := fun c o c1 e => (hsf.2 _ c1).trans ((hse.2 _ c1).trans (Heap.get?_push_of_some _ e))
      have hne : hc.objs.size ≠ z := Nat.ne_of_gt (Heap.lt_size hzc)
      have hT : IsPair hf hc.objs.size x y := (hsf.2 _ hne).trans ((hse.2 _ hne).trans (Heap.get?_push_size _ rfl))
      have hfz : hf.objs.size = hc.objs.size + 1 := by rw [hsf.1, hse.1, Heap.size_push]
      rw [hsz] at hzf hT hfz
      refine wpAny_pure ⟨_, rfl, ?_⟩
      show Q (.ref hc.objs.size) _
      rw [hsz]
      exact k4 hf hzf (up _ _ hTOz hTOc) hT hfz fun c o c1 c2 e => up c o c1 ((hsc.2 _ c2).trans e)
    · obtain ⟨hz', k'⟩ := q
      exact wpAny_setField_rec hz' (by simp) fun h' _ hs' => k' h' hs'
  · obtain ⟨hz', k'⟩ := q
    exact wpAny_setField_rec hz' (by simp) fun h' _ hs' => k' h' hs'
/-- its own tuple is kept by someone: a new one is handed out -/
theorem zip_kept {t : Addr} {b1 : Bool} {Q : Value → Shared → Prop} {P1 : Value → Shared → Prop} {P2 : Value → Value → Shared → Prop} (ht : ∃ o, s.heap.get? t = some o) (hTIz : TI ≠ z) (hz : ZipAt s.heap z TI TO (rawInt t) (.bool b1)) (hTI : IsPair s.heap TI (.ref i1) (.ref i2))
    (h1 : ∀ h', ZipAt h' z TI TO (rawInt t) (.bool true) → Heap.SameBut z s.heap h' → wpAny (model prog w) A (Builtin.SmallTypes.nextOf (.ref i1)) P1 E { s with heap := h' })
    (h2 : ∀ x s2, P1 x s2 → wpAny (model prog w) A (Builtin.SmallTypes.nextOf (.ref i2)) (P2 x) E s2)
    (h3 : ∀ x y s4, P2 x y s4 → Q (.ref s4.heap.objs.size) { s4 with heap := s4.heap.push { cls := .type "tuple", data := .seq #[x, y] } }) :
    wpAny (model prog w) A (Builtin.«zip.__next__» ⟨[.ref z], []⟩) (fun fin s' => ∃ v, fin = .done (.ret v) ∧ Q v s') E s := by
  obtain ⟨ot, ht⟩ := ht
  show wpAny _ _ (field (.ref z) 2 >>= _) _ _ _
  refine wpAny_bind (wpAny_field hz rfl (x := .bool false) rfl ?_)
  show wpAny _ _ (field (.ref z) 3 >>= _) _ _ _
  refine wpAny_bind (wpAny_field hz rfl (x := .ref TI) rfl ?_)
  refine wpAny_bind (wpAny_seqItems hTI rfl ?_)
  show wpAny _ _ (Builtin.SmallTypes.ownedTupleIsFree (.ref z) >>= _) _ _ _
  refine wpAny_bind ?_
  unfold Builtin.SmallTypes.ownedTupleIsFree
  refine wpAny_bind (wpAny_field hz rfl (x := rawInt t) rfl ?_)
  have look : ∀ {Q' : Option Obj → Shared → Prop} {E'}, Q' (some ot) s → wpAny (model prog w) A (loadIfAlive t) Q' E' s := fun h Γ p hΓ => by
    show Sem.wp _ _ (.loadIfAlive t .pure) _ _ _ _
    rw [Sem.wp_loadIfAlive, ht]
    exact h
  show wpAny _ _ (loadIfAlive (t : Int).toNat >>= _) _ _ _
  rw [Int.toNat_natCast]
  refine wpAny_bind (look ?_)
  simp only [Option.isNone_some, Bool.false_eq_true, if_false]
  have goes : ∀ h', ZipAt h' z TI TO (rawInt t) (.bool true) → Heap.SameBut z s.heap h' → wpAny (model prog w) A (Builtin.SmallTypes.nextOf (.ref i1)) (fun x s2 => wpAny (model prog w) A (Builtin.SmallTypes.nextOf (.ref i2)) (fun y s4 => Q (.ref s4.heap.objs.size) { s4 with heap := s4.heap.push { cls := .type "tuple", data := .seq #[x, y] } }) E s2) E { s with heap := h' } :=
    fun h' a1 a2 => wpAny_mono (h1 h' a1 a2) (fun x s2 q => wpAny_mono (h2 x s2 q) (fun y s4 q2 => h3 x y s4 q2) fun _ _ e => e) fun _ _ e => e
  cases b1 with
  | true =>
    refine wpAny_bind (wpAny_field hz rfl (x := .bool true) rfl ?_)
    simp only [bne_self_eq_false, Bool.false_eq_true, if_false]
    refine wpAny_pure ?_
    simp only [← Array.forIn_toList, List.forIn_cons, List.forIn_nil, Bool.false_eq_true, if_false]
    refine wpAny_bind (wpAny_bind (wpAny_bind ?_))
    show wpAny _ _ (Builtin.SmallTypes.nextOf (.ref i1) >>= _) _ _ _
    refine wpAny_bind (wpAny_mono (goes _ hz ⟨rfl, fun _ _ => rfl⟩) (fun x s2 q => wpAny_pure (wpAny_pure ?_)) fun _ _ e => e)
    refine wpAny_bind (wpAny_bind ?_)
    refine wpAny_holding ?_
    show wpAny _ _ (Builtin.SmallTypes.nextOf (.ref i2) >>= _) _ _ _
    refine wpAny_bind (wpAny_mono q (fun y s4 q2 => wpAny_pure (wpAny_pure (wpAny_pure ?_))) fun _ _ e => e)
    exact wpAny_bind (wpAny_newTuple (hsz := by show 2 ≤ sizeLine; decide) (wpAny_pure ⟨_, rfl, q2⟩))
  | false =>
    refine wpAny_bind (wpAny_field hz rfl (x := .bool false) rfl ?_)
    have e : (Value.bool false != Value.bool true) = true := by decide
    rw [if_pos e]
    refine wpAny_bind (wpAny_setField_rec hz (by simp) fun h' hz' hs' => ?_)
    replace hz' : ZipAt h' z TI TO (rawInt t) (.bool true) := hz'
    refine wpAny_pure ?_
    simp only [← Array.forIn_toList, List.forIn_cons, List.forIn_nil, Bool.false_eq_true, if_false]
    refine wpAny_bind (wpAny_bind (wpAny_bind ?_))
    show wpAny _ _ (Builtin.SmallTypes.nextOf (.ref i1) >>= _) _ _ _
    refine wpAny_bind (wpAny_mono (goes _ hz' hs') (fun x s2 q => wpAny_pure (wpAny_pure ?_)) fun _ _ e => e)
    refine wpAny_bind (wpAny_bind ?_)
    refine wpAny_holding ?_
    show wpAny _ _ (Builtin.SmallTypes.nextOf (.ref i2) >>= _) _ _ _
    refine wpAny_bind (wpAny_mono q (fun y s4 q2 => wpAny_pure (wpAny_pure (wpAny_pure ?_))) fun _ _ e => e)
    exact wpAny_bind (wpAny_newTuple (hsz := by show 2 ≤ sizeLine; decide) (wpAny_pure ⟨_, rfl, q2⟩))
end
end Ami

set_option Elab.async false
set_option linter.all false
set_option maxRecDepth 100000
set_option maxHeartbeats 2000000
/-! zip of any two iterators: making it -/
namespace Ami
open PySem PySem.Spec PyProof.Rows L2
/-- iter(v) is at i, from one heap to another -/
def IterTo (v : Value) (i : Addr) (s : Shared) (h' : Heap) : Prop := ∀ (prog : Program) (w : World) (A : Around) (Q : Value → Shared → Prop) (E : Value → Shared → Prop), Q (.ref i) { s with heap := h' } → wpAny (model prog w) A (pyIter v) Q E s
abbrev zipped (h : Heap) (i1 i2 : Addr) : Heap := ((h.push { cls := .type "tuple", data := .seq #[.ref i1, .ref i2] }).push { cls := .type "tuple", data := .seq #[.none, .none] }).push
  { cls := .type "zip", data := .fields #[.none, .bool false, .bool false, .ref h.objs.size, .ref (h.push { cls := .type "tuple", data := .seq #[.ref i1, .ref i2] }).objs.size] }
theorem meets_zipAny (v1 v2 : Value) (i1 i2 : Addr) (h1 h2 : Heap) : Meets (Builtin.«zip.__new__» ⟨[.type "zip", v1, v2], []⟩) (fun _ R s => IterTo v1 i1 s h1 ∧ IterTo v2 i2 { s with heap := h1 } h2 ∧
      R (.ok (.ret (.ref ((h2.push { cls := .type "tuple", data := .seq #[.ref i1, .ref i2] }).push { cls := .type "tuple", data := .seq #[.none, .none] }).objs.size))) { s with heap := zipped h2 i1 i2 }) :=
  .of_wp fun prog w A R s h => by
    obtain ⟨hp, g, d, tk, os⟩ := s
    obtain ⟨k1, k2, h⟩ := h
    have hsub := sub_zip
    have k1' : ∀ {Q : Value → Shared → Prop} {E : Value → Shared → Prop} {A : Around}, Q (.ref i1) ⟨h1, g, d, tk, os⟩ → wpAny (model prog w) A (pyIter v1) Q E ⟨hp, g, d, tk, os⟩ := fun q => k1 prog w _ _ _ q
    have k2' : ∀ {Q : Value → Shared → Prop} {E : Value → Shared → Prop} {A : Around}, Q (.ref i2) ⟨h2, g, d, tk, os⟩ → wpAny (model prog w) A (pyIter v2) Q E ⟨h1, g, d, tk, os⟩ := fun q => k2 prog w _ _ _ q
    wp_walk using k1', k2'
    exact ⟨_, rfl, h⟩
theorem call_zipAny {prog : Program} {w : World} {A : Around} {E : Value → Shared → Prop} {s : Shared} {Q : Value → Shared → Prop} {v1 v2 : Value} {i1 i2 : Addr} {h1 h2 : Heap} (k1 : IterTo v1 i1 s h1) (k2 : IterTo v2 i2 { s with heap := h1 } h2)
    (h : ∀ h', ZipAt h' (h2.objs.size + 2) h2.objs.size (h2.objs.size + 1) .none (.bool false) → IsPair h' h2.objs.size (.ref i1) (.ref i2) → IsPair h' (h2.objs.size + 1) .none .none → h'.objs.size = h2.objs.size + 3 → (∀ c o, h2.get? c = some o → h'.get? c = some o) → Q (.ref (h2.objs.size + 2)) { s with heap := h' }) :
    wpAny (model prog w) A (call (.type "zip") [v1, v2]) Q E s := by
  refine callType_new F.called_zip (by decide) (F.typeCall_zip_2 _ _) (F.newCall_zip_2 _ _) (fun obj => F.args_object_init_3 obj _ _) F.entry_zip_new (meets_zipAny v1 v2 i1 i2 h1 h2) ⟨k1, k2, ?_⟩
  have z1 : (h2.push { cls := .type "tuple", data := .seq #[.ref i1, .ref i2] }).objs.size = h2.objs.size + 1 := Heap.size_push ..
  have z2 : ((h2.push { cls := .type "tuple", data := .seq #[.ref i1, .ref i2] }).push { cls := .type "tuple", data := .seq #[.none, .none] }).objs.size = h2.objs.size + 2 := by rw [Heap.size_push, z1]
  have z3 : (zipped h2 i1 i2).objs.size = h2.objs.size + 3 := by rw [Heap.size_push, z2]
  have a1 : (zipped h2 i1 i2).get? ((h2.push { cls := .type "tuple", data := .seq #[.ref i1, .ref i2] }).push { cls := .type "tuple", data := .seq #[.none, .none] }).objs.size = some _ := Heap.get?_push_size _ rfl
  have a2 : (zipped h2 i1 i2).get? (h2.push { cls := .type "tuple", data := .seq #[.ref i1, .ref i2] }).objs.size = some _ := Heap.get?_push_of_some _ (Heap.get?_push_size _ rfl)
  have a3 : (zipped h2 i1 i2).get? h2.objs.size = some _ := Heap.get?_push_of_some _ (Heap.get?_push_of_some _ (Heap.get?_push_size _ rfl))
  show _ ∧ _
  rw [z2, z1] at a1
  rw [z1] at a2
  rw [z2]
  exact ⟨⟨_, a1, rfl⟩, h _ a1 a3 a2 z3 fun c o e => Heap.get?_push_of_some _ (Heap.get?_push_of_some _ (Heap.get?_push_of_some _ e))⟩
theorem iterTo_gen {a : Addr} {g : Nat} {s : Shared} (h : s.heap.IsGen a g) : IterTo (.ref a) a s s.heap := fun _ _ _ _ _ q => wpAny_pyIter_gen h q
end Ami

set_option Elab.async false
set_option linter.all false
set_option maxRecDepth 100000
set_option maxHeartbeats 2000000
/-! list(it), it a zip of any two iterators -/
namespace Ami
open PySem PySem.Spec PyProof.Rows L2 GenW
theorem zip_len : typeLookup (.type "zip") "__len__" = pure none := by rw [typeLookup_type, builtinLookup_eq_fast]; kernel_rfl
theorem zip_hint : typeLookup (.type "zip") "__length_hint__" = pure none := by rw [typeLookup_type, builtinLookup_eq_fast]; kernel_rfl
section
variable {prog : Program} {w : World} {A : Around} {s : Shared} {S it : Addr} {res : Value} {R : Result → Shared → Prop}
/-- the list at S takes what the iterator hands out; J by a measure -/
theorem drain_by (J : Nat → Shared → Prop) (turn : ∀ m s, J m s → wpAny (model prog w) A.in1 (pyNext (.ref it)) (fun r s' => match r with
      | none => R (.ok (.ret res)) s'
      | some v => ∃ acc c, s'.heap.get? S = some (lstObj acc c) ∧ acc.size < sizeLine ∧ ∃ m', m' < m ∧ J m' { s' with heap := s'.heap.update S (Obj.mapSeq (·.push v)) }) (fun e s' => R (.error e) s') s) :
    ∀ m s, J m s → codeAny (model prog w) A (.builtin "list.extend.loop" ⟨[.ref S, .ref it, res], []⟩) R s := by
  intro m
  induction m using Nat.strongRecOn with
  | ind m ih =>
    intro s hJ
    refine codeAny_builtin F.entry_extend_loop ?_
    rw [Around.under_plainId F.plain_extend_loop _]
    show wpAny _ A.in1 (pyNext (.ref it) >>= _) _ _ s
    refine wpAny_bind (wpAny_mono (turn m s hJ) (fun r s' q => ?_) fun e s' q => q)
    cases r with
    | none => exact wpAny_pure q
    | some v =>
      obtain ⟨acc, c, hS, hz, m', hm, hJ'⟩ := q
      show wpAny _ A.in1 (updateSeq S (·.push v) >>= _) _ _ _
      refine wpAny_bind ?_
      refine wpAny_updateSeq hS rfl (wpAny_pure ⟨plainId_quiet F.plain_extend_loop _, ih m' hm _ hJ'⟩) (Nat.le_of_lt hz) ?_
      show (acc.push v).size ≤ sizeLine + 1
      rw [Array.size_push]; omega
/-- list(it) -/
theorem call_list_it {z : Addr} {T : String} {Q : Value → Shared → Prop} {E : Value → Shared → Prop} (hz : s.TypeIs (.ref z) T) (hlen : typeLookup (.type T) "__len__" = pure none) (hhint : typeLookup (.type T) "__length_hint__" = pure none) (h2 : (Value.type T == Value.type "list") = false) (h3 : (Value.type T == Value.type "tuple") = false)
    (self : ∀ h', (∀ b o, s.heap.get? b = some o → h'.get? b = some o) → IterTo (.ref z) z { s with heap := h' } h') (J : Nat → Shared → Prop) (n : Nat)
    (start : ∀ h', h'.get? s.heap.objs.size = some (lstObj #[] 1) ∨ (∃ c, h'.get? s.heap.objs.size = some (lstObj #[] c)) → (∀ b o, s.heap.get? b = some o → h'.get? b = some o) → J n { s with heap := h' })
    (turn : ∀ m s', J m s' → wpAny (model prog w) A.in1.in1 (pyNext (.ref z)) (fun r s'' => match r with
      | none => Q (.ref s.heap.objs.size) s''
      | some v => ∃ acc c, s''.heap.get? s.heap.objs.size = some (lstObj acc c) ∧ acc.size < sizeLine ∧ ∃ m', m' < m ∧ J m' { s'' with heap := s''.heap.update s.heap.objs.size (Obj.mapSeq (·.push v)) }) (fun e s'' => E e s'') s') :
    wpAny (model prog w) A (call (.type "list") [.ref z]) Q E s := by
  obtain ⟨oz, hoz, hcz⟩ := id hz
  have hzl : z < s.heap.objs.size := Heap.lt_size hoz
  have hSz : s.heap.objs.size ≠ z := Nat.ne_of_gt hzl
  refine callType_codes (Q₁ := fun obj s₁ => obj = .ref s.heap.objs.size ∧ s₁ = { s with heap := s.heap.push { cls := .type "list", data := .seq #[] } }) F.called_list (F.typeCall_list_1 _) F.entry_list_init
    (code_list_new _ ⟨rfl, rfl⟩) fun obj s₁ h₁ => ?_
  obtain ⟨rfl, rfl⟩ := h₁
  have hS : (s.heap.push { cls := .type "list", data := .seq #[] }).get? s.heap.objs.size = some { cls := .type "list", data := .seq #[] } := Heap.get?_push_size _ rfl
  refine ⟨⟨_, hS, rfl⟩, F.args_list_init_2 _ _, ?_⟩
  show wpAny _ A.in1.in1 (do let old ← Builtin.List.listItems (.ref s.heap.objs.size); Builtin.List.listUpdate (.ref s.heap.objs.size) (fun _ => #[]); letGo old.toList.reverse; Builtin.List.listExtendWith (.ref s.heap.objs.size) (.ref z) .none) _ _ _
  refine wpAny_bind ?_
  unfold Builtin.List.listItems
  refine wpAny_bind (wpAny_seqItems hS rfl (wpAny_pure ?_))
  show wpAny _ A.in1.in1 (updateSeq s.heap.objs.size (fun _ => #[]) >>= fun _ => letGo (#[] : Array Value).toList.reverse >>= fun _ => Builtin.List.listExtendWith (.ref s.heap.objs.size) (.ref z) .none) _ _ _
  refine wpAny_bind (wpAny_updateSeq hS rfl ?_)
  have hS2 := Heap.get?_update_self (Obj.mapSeq (fun _ => (#[] : Array Value))) hS rfl
  refine wpAny_bind (wpAny_letGo ?_)
  unfold Builtin.List.listExtendWith
  have up : ∀ (h : Heap) (f : Obj → Obj), (∀ b o, s.heap.get? b = some o → h.get? b = some o) → ∀ b o, s.heap.get? b = some o → (h.update s.heap.objs.size f).get? b = some o := fun h f q b o e =>
    (Heap.get?_update_other _ _ (Ne.symm (Nat.ne_of_lt (Heap.lt_size e)))).trans (q b o e)
  have k1 : ∀ b o, s.heap.get? b = some o → (s.heap.push { cls := .type "list", data := .seq #[] }).get? b = some o := fun b o e => Heap.get?_push_of_some _ e
  have k2 := up _ (Obj.mapSeq (fun _ => (#[] : Array Value))) k1
  have zty : ∀ {h : Heap}, (∀ b o, s.heap.get? b = some o → h.get? b = some o) → ({ s with heap := h } : Shared).TypeIs (.ref z) T := fun {h} q => ⟨oz, q _ _ hoz, hcz⟩
  refine wpAny_bind (wpAny_typeOf (zty k2) ?_)
  have h1 : Builtin.List.listSameRef (.ref s.heap.objs.size) (.ref z) = false := by simp [Builtin.List.listSameRef, hSz]
  simp only [h1, h2, h3, Bool.or_false, Bool.false_eq_true, if_false]
  refine wpAny_bind (self _ k2 _ _ _ _ _ ?_)
  refine wpAny_bind (wpAny_holding ?_)
  unfold Builtin.List.listLengthHint
  refine wpAny_bind (wpAny_specialOf (zty k2) hlen ?_)
  show wpAny _ A.in1.in1 (specialOf (Value.ref z) (Str.ofString "__length_hint__") >>= _) _ _ _
  refine wpAny_bind (wpAny_specialOf (zty k2) hhint ?_)
  refine wpAny_pure ?_
  show wpAny _ A.in1.in1 (rule "list.extend.makes-room" >>= fun _ => Builtin.List.listTouch (.ref s.heap.objs.size) >>= fun _ =>
    again (.builtin "list.extend.loop" ⟨[.ref s.heap.objs.size, .ref z, .none], []⟩)) _ _ _
  refine wpAny_bind (wpAny_rule ?_)
  refine wpAny_bind ?_
  show wpAny _ A.in1.in1 (updateSeq s.heap.objs.size (·.push .none) >>= fun _ => updateSeq s.heap.objs.size (·.pop)) _ _ _
  refine wpAny_bind (wpAny_updateSeq hS2 rfl ?_)
  have hS3 := Heap.get?_update_self (Obj.mapSeq (·.push Value.none)) hS2 rfl
  refine wpAny_updateSeq (hz := by seq_fits) hS3 rfl ?_
  have hS4 := Heap.get?_update_self (Obj.mapSeq (·.pop)) hS3 rfl
  have k4 := up _ (Obj.mapSeq (·.pop)) (up _ (Obj.mapSeq (·.push Value.none)) k2)
  refine wpAny_pure ⟨plainId_quiet F.plain_extend_loop _, ?_⟩
  refine drain_by (A := A.in1) (R := fun r s' => match r with | .ok (.ret u) => u = .none ∧ Q (.ref s.heap.objs.size) s' | .ok _ => False | .error e => E e s') J (fun m s' hJ => ?_) n _ (start _ (.inr ⟨_, hS4⟩) k4)
  refine wpAny_mono (turn m s' hJ) (fun r s'' q => ?_) fun e s'' q => q
  cases r with
  | none => exact ⟨rfl, q⟩
  | some v => exact q
theorem call_list_zip {z TI TO : Addr} {f0 : Value} {Q : Value → Shared → Prop} {E : Value → Shared → Prop} (hz : ZipAt s.heap z TI TO f0 (.bool false)) (J : Nat → Shared → Prop) (n : Nat)
    (start : ∀ h', h'.get? s.heap.objs.size = some (lstObj #[] 1) ∨ (∃ c, h'.get? s.heap.objs.size = some (lstObj #[] c)) → (∀ b o, s.heap.get? b = some o → h'.get? b = some o) → J n { s with heap := h' })
    (turn : ∀ m s', J m s' → wpAny (model prog w) A.in1.in1 (pyNext (.ref z)) (fun r s'' => match r with
      | none => Q (.ref s.heap.objs.size) s''
      | some v => ∃ acc c, s''.heap.get? s.heap.objs.size = some (lstObj acc c) ∧ acc.size < sizeLine ∧ ∃ m', m' < m ∧ J m' { s'' with heap := s''.heap.update s.heap.objs.size (Obj.mapSeq (·.push v)) }) (fun e s'' => E e s'') s') :
    wpAny (model prog w) A (call (.type "list") [.ref z]) Q E s :=
  call_list_it ⟨_, hz, rfl⟩ zip_len zip_hint (by decide) (by decide) (fun h' k _ _ _ _ _ q => wpAny_pyIter_zip (show IsZip _ z TI TO f0 from k _ _ hz) q) J n start turn
end
end Ami

set_option Elab.async false
set_option linter.all false
set_option maxRecDepth 100000
set_option maxHeartbeats 2000000
/-! zip of two generators: its items -/
namespace Ami
open PySem PySem.Spec PyProof.Rows L2 GenW
theorem nn {x y : Nat} (h : x ≠ y) : @Ne Addr x y := h
theorem lt_heap {h : Heap} {a : Nat} {o : Obj} (e : h.get? a = some o) : a < h.objs.size := Heap.lt_size e
/-- what one step of a generator with its frame at L leaves -/
structure Stepped (X : Cx) (L : Addr) (H : Hp) (s s' : Shared) : Prop where
  os : s'.os = s.os
  bare : AllBare s'.gens
  un : Un X.fs [L] H H s.heap s'.heap
  hok : HOk X.prog X.w H s'.heap
section
variable {X : Cx} {A : Around} {xs : List V} {σs : Nat → L2.St} {a L : Addr} {g k : Nat} {s : Shared} {H : Hp} {E : Value → Shared → Prop} {x : V}
theorem nextOf_gen {P : Value → Shared → Prop} (G : GenAt X A.in1 xs σs a g k s) (O : GenOk X A.in1 xs σs a L) (hx : xs[k]? = some x) (I : Inv X [] (σs k) H s) (ha : H a = none)
    (hQ : ∀ v s', RelV x v → GenAt X A.in1 xs σs a g (k + 1) s' → Stepped X L H s s' → Others g s s' → (k = 0 → Others0 g s s') → P v s') : wpAny (model X.prog X.w) A (Builtin.SmallTypes.nextOf (.ref a)) P E s := by
  unfold Builtin.SmallTypes.nextOf
  refine wpAny_bind (wpAny_callSpecial?_slot (name := Str.ofString "__next__") G.gen.typeIs slot_gen_next (wpAny_call_entry slot_gen_next G.gen.typeIs entry_gen_next ?_ (args_gen_next _)))
  show wpAny _ A.in1 (Builtin.Generator.genWake (.ref a) (.send .none)) _ _ s
  refine gen_item G O hx I ha fun v s' rv G' way ot ot0 => ⟨v, rfl, wpAny_pure (hQ v s' rv G' ?_ ot ot0)⟩
  have J := way H I
  have u := Way.keeps O.bare way I
  rw [O.loc] at u
  exact ⟨J.os.trans I.os.symm, J.bare, u, J.hok⟩
theorem nextOf_done {P : Value → Shared → Prop} (G : GenAt X A.in1 xs σs a g k s) (O : GenOk X A.in1 xs σs a L) (hk : k = xs.length) (I : Inv X [] (σs k) H s)
    (hE : ∀ e s', Stepped X L H s s' → (∃ o, s'.heap.get? e = some o ∧ o.cls = .type "StopIteration") → E (.ref e) s') : wpAny (model X.prog X.w) A (Builtin.SmallTypes.nextOf (.ref a)) P E s := by
  unfold Builtin.SmallTypes.nextOf
  refine wpAny_bind (wpAny_callSpecial?_slot (name := Str.ofString "__next__") G.gen.typeIs slot_gen_next (wpAny_call_entry slot_gen_next G.gen.typeIs entry_gen_next ?_ (args_gen_next _)))
  show wpAny _ A.in1 (Builtin.Generator.genWake (.ref a) (.send .none)) _ _ s
  exact gen_done G O hk I fun e s' h1 h2 h3 h4 h5 => hE e s' ⟨h1, h2, h3, h4⟩ h5
end
/-- the program, the callers' frames, the state on which all stands, what is tracked there -/
structure Fam (X : Cx) (P : Program) (w : World) (fr : List Addr) (sb : Shared) (H : Hp) : Prop where
  prog : X.prog = P
  w : X.w = w
  fs : X.fs = fr
  s0 : X.s_0 = sb
  h0 : X.H_0 = H
/-- a state that stands on another -/
structure On (P : Program) (w : World) (fr : List Addr) (H : Hp) (sb s : Shared) : Prop where
  os : s.os = sb.os
  bare : AllBare s.gens
  un : Un fr [] H H sb.heap s.heap
  hok : HOk P w H s.heap
section
variable {P : Program} {w : World} {fr : List Addr} {sb s : Shared} {H : Hp} {X : Cx} {A : Around} {xs : List V} {σs : Nat → L2.St} {a L : Addr} {g k : Nat} {E : Value → Shared → Prop} {x : V}
theorem On.inv (F : Fam X P w fr sb H) (O : GenOk X A xs σs a L) (G : GenAt X A xs σs a g k s) (B : On P w fr H sb s) (hk : k ≤ xs.length) (hL : H L = none) : Inv X [] (σs k) H s := by
  obtain ⟨rfl, rfl, rfl, rfl, rfl⟩ := F
  exact G.inv O hk B.os B.bare B.un hL B.hok
/-- foreign work upon the young -/
theorem On.young (B : On P w fr H sb s) {s' : Shared} (os : s'.os = s.os) (bare : AllBare s'.gens) (keep : ∀ b o, b < sb.heap.objs.size → s.heap.get? b = some o → s'.heap.get? b = some o) (hob : HOk P w H sb.heap) : On P w fr H sb s' := by
  have lt : ∀ b u, H b = some u → b < sb.heap.objs.size := fun b u e => by
    refine Nat.lt_of_not_le fun z => ?_
    have := hob.fresh z
    rw [e] at this
    cases this
  refine ⟨os.trans B.os, bare, ⟨fun b o e n h1 h2 => keep b o (Heap.lt_size e) (B.un.keep b o e n h1 h2), fun b o e n h1 h2 => ?_, fun b o e n _ => n, fun b o e h => ?_, fun _ _ e => e, fun _ _ _ e => e, fun b ps e => ⟨#[], by rw [e]; simp⟩⟩, fun b u e => ?_⟩
  · obtain ⟨sl, e1⟩ := B.un.slot b o e n h1 h2
    exact ⟨sl, keep b _ (Heap.lt_size e) e1⟩
  · obtain ⟨o', e1⟩ := B.un.there b o e h
    exact ⟨o', keep b o' (Heap.lt_size e) e1⟩
  · refine (B.hok b u e).stay (fun c v hc q => ?_) (fun _ q => q) fun _ _ q => q
    refine keep c v ?_ q
    rcases hc with rfl | hc
    · exact lt c u e
    · exact lt c _ hc
theorem nextOf_on {Q : Value → Shared → Prop} (F : Fam X P w fr sb H) (O : GenOk X A.in1 xs σs a L) (G : GenAt X A.in1 xs σs a g k s) (B : On P w fr H sb s) (hob : HOk P w H sb.heap) (hfr : ∀ b ∈ fr, b < sb.heap.objs.size) (hL : sb.heap.objs.size ≤ L) (ha : sb.heap.objs.size ≤ a) (hx : xs[k]? = some x)
    (hQ : ∀ v s', RelV x v → GenAt X A.in1 xs σs a g (k + 1) s' → On P w fr H sb s' → (∀ b o, sb.heap.objs.size ≤ b → b ≠ L → s.heap.get? b = some o → s'.heap.get? b = some o) → Others g s s' → (k = 0 → Others0 g s s') → Q v s') :
    wpAny (model P w) A (Builtin.SmallTypes.nextOf (.ref a)) Q E s := by
  have I := B.inv F O G (Nat.le_of_lt (List.getElem?_eq_some_iff.mp hx).1) (hob.fresh hL)
  obtain ⟨rfl, rfl, rfl, rfl, rfl⟩ := F
  refine nextOf_gen G O hx I (hob.fresh ha) fun v s' rv G' S o1 o2 => hQ v s' rv G' ⟨S.os.trans B.os, S.bare, ?_, S.hok⟩ (fun b o hb h1 e => ?_) o1 o2
  · have ne : ∀ {b o}, X.s_0.heap.get? b = some o → b ∉ [L] := fun {b o} e => by
      intro q
      have lt := Heap.lt_size e
      rw [List.mem_singleton.mp q] at lt
      exact absurd lt (Nat.not_lt.mpr hL)
    refine ⟨fun b o e n h1 h2 => S.un.keep b o (B.un.keep b o e n h1 h2) n h1 (ne e), fun b o e n h1 h2 => ?_, fun b o e n _ => n, fun b o e h => ?_, S.un.tups, S.un.frzs, S.un.tbls⟩
    · obtain ⟨sl, e1⟩ := B.un.slot b o e n h1 h2
      obtain ⟨sl2, e2⟩ := S.un.slot b _ e1 n h1 (ne e)
      exact ⟨sl2, e2⟩
    · obtain ⟨o', e1⟩ := B.un.there b o e h
      exact S.un.there b o' e1 (ne e)
  · exact S.un.keep b o e (hob.fresh hb) (fun z => absurd (hfr b z) (Nat.not_lt.mpr hb)) (by simpa using h1)
theorem nextOf_end {Q : Value → Shared → Prop} (F : Fam X P w fr sb H) (O : GenOk X A.in1 xs σs a L) (G : GenAt X A.in1 xs σs a g k s) (B : On P w fr H sb s) (hob : HOk P w H sb.heap) (hfr : ∀ b ∈ fr, b < sb.heap.objs.size) (hL : sb.heap.objs.size ≤ L) (hk : k = xs.length)
    (hE : ∀ e s', On P w fr H sb s' → (∀ b o, sb.heap.objs.size ≤ b → b ≠ L → s.heap.get? b = some o → s'.heap.get? b = some o) → (∃ o, s'.heap.get? e = some o ∧ o.cls = .type "StopIteration") → E (.ref e) s') :
    wpAny (model P w) A (Builtin.SmallTypes.nextOf (.ref a)) Q E s := by
  have I := B.inv F O G (Nat.le_of_eq hk) (hob.fresh hL)
  obtain ⟨rfl, rfl, rfl, rfl, rfl⟩ := F
  refine nextOf_done G O hk I fun e s' S he => hE e s' ⟨S.os.trans B.os, S.bare, ?_, S.hok⟩ (fun b o hb h1 e => ?_) he
  · have ne : ∀ {b o}, X.s_0.heap.get? b = some o → b ∉ [L] := fun {b o} e => by
      intro q
      have lt := Heap.lt_size e
      rw [List.mem_singleton.mp q] at lt
      exact absurd lt (Nat.not_lt.mpr hL)
    refine ⟨fun b o e n h1 h2 => S.un.keep b o (B.un.keep b o e n h1 h2) n h1 (ne e), fun b o e n h1 h2 => ?_, fun b o e n _ => n, fun b o e h => ?_, S.un.tups, S.un.frzs, S.un.tbls⟩
    · obtain ⟨sl, e1⟩ := B.un.slot b o e n h1 h2
      obtain ⟨sl2, e2⟩ := S.un.slot b _ e1 n h1 (ne e)
      exact ⟨sl2, e2⟩
    · obtain ⟨o', e1⟩ := B.un.there b o e h
      exact S.un.there b o' e1 (ne e)
  · exact S.un.keep b o e (hob.fresh hb) (fun z => absurd (hfr b z) (Nat.not_lt.mpr hb)) (by simpa using h1)
end

/-- the objects of a walk over zip(g1, g2), each new, each another one -/
structure Places (n0 L1 a1 L2 a2 TI TO z S : Nat) : Prop where
  q1 : n0 ≤ L1 ∧ n0 ≤ a1 ∧ a1 ≠ L1
  q2 : L1 < L2 ∧ a1 < L2 ∧ L1 < a2 ∧ a1 < a2 ∧ a2 ≠ L2
  q3 : L2 < TI ∧ a2 < TI ∧ TI < TO ∧ TO < z ∧ z < S
/-- ahead of the k-th turn -/
structure ZipTurn (P : Program) (w : World) (fr : List Addr) (X1 X2 : Cx) (A : Around) (xs ys : List V) (σ1 σ2 : Nat → L2.St) (a1 g1 a2 g2 TI TO z S : Nat) (H : Hp) (sb : Shared) (k : Nat) (s : Shared) : Prop where
  on : On P w fr H sb s
  go1 : GenAt X1 A xs σ1 a1 g1 k s
  go2 : GenAt X2 A ys σ2 a2 g2 k s
  ti : IsPair s.heap TI (.ref a1) (.ref a2)
  zp : (k = 0 ∧ ZipAt s.heap z TI TO .none (.bool false) ∧ IsPair s.heap TO .none .none) ∨ (0 < k ∧ ∃ (t : Nat) (b : Bool), ZipAt s.heap z TI TO (rawInt t) (.bool b) ∧ S < t ∧ ∃ o, s.heap.get? t = some o)
  list : ∃ (acc : Array Value) (c : Nat), s.heap.get? S = some (lstObj acc c) ∧ acc.size = k ∧ ∀ i, i < k → ∃ (t : Nat) (x y : V) (u v : Value), acc[i]? = some (.ref t) ∧ S < t ∧ IsPair s.heap t u v ∧ xs[i]? = some x ∧ ys[i]? = some y ∧ RelV x u ∧ RelV y v
/-- what the turn itself leaves alone -/
structure Still (xs ys : List V) (a1 a2 TI S : Nat) (k : Nat) (acc : Array Value) (c : Nat) (h : Heap) : Prop where
  ti : IsPair h TI (.ref a1) (.ref a2)
  l : h.get? S = some (lstObj acc c)
  items : ∀ i, i < k → ∃ (t : Nat) (x y : V) (u v : Value), acc[i]? = some (.ref t) ∧ S < t ∧ IsPair h t u v ∧ xs[i]? = some x ∧ ys[i]? = some y ∧ RelV x u ∧ RelV y v
theorem Still.keep {xs ys : List V} {a1 a2 TI S : Nat} {k : Nat} {acc : Array Value} {c : Nat} {h h' : Heap} (T : Still xs ys a1 a2 TI S k acc c h) (kp : ∀ (b : Nat) o, (b = TI ∨ S ≤ b) → h.get? b = some o → h'.get? b = some o) : Still xs ys a1 a2 TI S k acc c h' := by
  refine ⟨kp _ _ (.inl rfl) T.ti, kp _ _ (.inr (Nat.le_refl _)) T.l, fun i hi => ?_⟩
  obtain ⟨t, x, y, u, v, e1, e2, e3, r⟩ := T.items i hi
  exact ⟨t, x, y, u, v, e1, e2, kp _ _ (.inr (Nat.le_of_lt e2)) e3, r⟩
/-- one more -/
theorem Still.more {xs ys : List V} {a1 a2 TI S t : Nat} {k : Nat} {acc : Array Value} {c : Nat} {h : Heap} {x y : V} {u v : Value} (T : Still xs ys a1 a2 TI S k acc c h) (hac : acc.size = k) (hTI : TI ≠ S) (ht : S < t) (e : IsPair h t u v) (hx : xs[k]? = some x) (hy : ys[k]? = some y) (rx : RelV x u) (ry : RelV y v) :
    ∃ c', Still xs ys a1 a2 TI S (k + 1) (acc.push (.ref t)) c' (h.update S (Obj.mapSeq (·.push (.ref t)))) := by
  have kp : ∀ (b : Nat) o, b ≠ S → h.get? b = some o → (h.update S (Obj.mapSeq (·.push (.ref t)))).get? b = some o := fun (b : Nat) o hb q => (Heap.get?_update_other _ _ (Ne.symm hb)).trans q
  refine ⟨_, kp _ _ hTI T.ti, Heap.get?_update_self _ T.l rfl, fun i hi => ?_⟩
  by_cases hik : i < k
  · obtain ⟨t', x', y', u', v', e1, e2, e3, r⟩ := T.items i hik
    refine ⟨t', x', y', u', v', ?_, e2, kp _ _ (Nat.ne_of_gt e2) e3, r⟩
    rw [Array.getElem?_push, if_neg (by omega)]
    exact e1
  · have : i = k := by omega
    subst this
    refine ⟨t, x, y, u, v, ?_, ht, kp _ _ (Nat.ne_of_gt ht) e, hx, hy, rx, ry⟩
    rw [Array.getElem?_push, if_pos hac.symm]
section
variable {P : Program} {w : World} {fr : List Addr} {sb s : Shared} {H : Hp} {X1 X2 : Cx} {A : Around} {xs ys : List V} {σ1 σ2 : Nat → L2.St} {a1 g1 a2 g2 L1 L2 TI TO z S : Nat} {k : Nat} {E : Value → Shared → Prop}
theorem zip_turn {Q : Value → Shared → Prop} (F1 : Fam X1 P w fr sb H) (F2 : Fam X2 P w fr sb H) (O1 : GenOk X1 A.in1 xs σ1 a1 L1) (O2 : GenOk X2 A.in1 ys σ2 a2 L2) (D : Places sb.heap.objs.size L1 a1 L2 a2 TI TO z S) (hob : HOk P w H sb.heap) (hfr : ∀ b ∈ fr, b < sb.heap.objs.size) (hg : g1 ≠ g2)
    (hle : xs.length = ys.length) (hk : k < xs.length) (T : ZipTurn P w fr X1 X2 A.in1 xs ys σ1 σ2 a1 g1 a2 g2 TI TO z S H sb k s)
    (hQ : ∀ (t : Nat) (s' : Shared), (∃ acc c, s'.heap.get? S = some (lstObj acc c) ∧ acc.size = k) → ZipTurn P w fr X1 X2 A.in1 xs ys σ1 σ2 a1 g1 a2 g2 TI TO z S H sb (k + 1) { s' with heap := s'.heap.update S (Obj.mapSeq (·.push (.ref t))) } → Q (.ref t) s') :
    wpAny (model P w) A (Builtin.«zip.__next__» ⟨[.ref z], []⟩) (fun fin s' => ∃ v, fin = .done (.ret v) ∧ Q v s') E s := by
  obtain ⟨⟨d1, d2, d3⟩, ⟨d4, d5, d6, d7, d8⟩, d9, d10, d11, d12, d13⟩ := D
  obtain ⟨on, go1, go2, ti, zp, acc, c, hS, hac, hitems⟩ := T
  have hx1 : xs[k]? = some xs[k] := List.getElem?_eq_getElem hk
  have hx2 : ys[k]? = some ys[k] := List.getElem?_eq_getElem (by omega)
  have hL1 := O1.loc
  have hL2 := O2.loc
  have st : Still xs ys a1 a2 TI S k acc c s.heap := ⟨ti, hS, hitems⟩
  -- the first step
  have step1 : ∀ (h' : Heap), Heap.SameBut z s.heap h' → ∀ {Q' : Value → Shared → Prop} {E' : Value → Shared → Prop},
      (∀ v s2, RelV xs[k] v → GenAt X1 A.in1 xs σ1 a1 g1 (k + 1) s2 → GenAt X2 A.in1 ys σ2 a2 g2 k s2 → On P w fr H sb s2 → Still xs ys a1 a2 TI S k acc c s2.heap → (∀ (b : Nat) o, (b = TO ∨ b = z ∨ S < b) → h'.get? b = some o → s2.heap.get? b = some o) → Q' v s2) →
      wpAny (model P w) A (Builtin.SmallTypes.nextOf (.ref a1)) Q' E' { s with heap := h' } := fun h' hs Q' E' kk => by
    have sb' : ∀ (b : Nat) o, b ≠ z → s.heap.get? b = some o → h'.get? b = some o := fun (b : Nat) o hb e => (hs.2 b hb).trans e
    refine nextOf_on F1 O1 (go1.keep (fun o e => sb' _ o (by rw [hL1]; exact nn (by omega)) e) (fun o e => sb' _ o (nn (by omega)) e) fun gs e _ => e) (on.young rfl on.bare (fun (b : Nat) o hb e => sb' b o (nn (by omega)) e) hob) hob hfr d1 d2 hx1 fun v s2 rv G1 on2 kp ot ot0 => ?_
    refine kk v s2 rv G1 ?_ on2 (st.keep fun (b : Nat) o hb e => kp b o ?_ ?_ (sb' b o ?_ e)) fun (b : Nat) o hb e => kp b o ?_ ?_ e
    · refine go2.keep (fun o e => kp _ o (by rw [hL2]; exact (show (sb.heap.objs.size : Nat) ≤ L2 by omega)) (by rw [hL2]; exact nn (by omega)) (sb' _ o (by rw [hL2]; exact nn (by omega)) e)) (fun o e => kp _ o (show (sb.heap.objs.size : Nat) ≤ a2 by omega) (nn (by omega)) (sb' _ o (nn (by omega)) e)) fun gs e sl => ?_
      by_cases k0 : k = 0
      · exact ot0 k0 g2 gs (Ne.symm hg) e
      · exact ot g2 gs (Ne.symm hg) e (sl (by omega))
    · rcases hb with rfl | hb <;> omega
    · rcases hb with rfl | hb <;> omega
    · rcases hb with rfl | hb <;> omega
    · rcases hb with rfl | rfl | hb <;> omega
    · rcases hb with rfl | rfl | hb <;> omega
  -- the second one
  have step2 : ∀ (s2 : Shared) (h' : Heap), GenAt X1 A.in1 xs σ1 a1 g1 (k + 1) s2 → GenAt X2 A.in1 ys σ2 a2 g2 k s2 → On P w fr H sb s2 → Still xs ys a1 a2 TI S k acc c s2.heap → Heap.SameBut TO s2.heap h' → ∀ {Q' : Value → Shared → Prop} {E' : Value → Shared → Prop},
      (∀ v s4, RelV ys[k] v → GenAt X1 A.in1 xs σ1 a1 g1 (k + 1) s4 → GenAt X2 A.in1 ys σ2 a2 g2 (k + 1) s4 → On P w fr H sb s4 → Still xs ys a1 a2 TI S k acc c s4.heap → (∀ (b : Nat) o, (b = TO ∨ b = z ∨ S < b) → h'.get? b = some o → s4.heap.get? b = some o) → Q' v s4) →
      wpAny (model P w) A (Builtin.SmallTypes.nextOf (.ref a2)) Q' E' { s2 with heap := h' } := fun s2 h' G1 G2 on2 st2 hs Q' E' kk => by
    have sb' : ∀ (b : Nat) o, b ≠ TO → s2.heap.get? b = some o → h'.get? b = some o := fun (b : Nat) o hb e => (hs.2 b hb).trans e
    refine nextOf_on F2 O2 (G2.keep (fun o e => sb' _ o (by rw [hL2]; exact nn (by omega)) e) (fun o e => sb' _ o (nn (by omega)) e) fun gs e _ => e) (on2.young rfl on2.bare (fun (b : Nat) o hb e => sb' b o (by omega) e) hob) hob hfr (by omega) (by omega) hx2 fun v s4 rv G2' on4 kp ot ot0 => ?_
    refine kk v s4 rv ?_ G2' on4 (st2.keep fun (b : Nat) o hb e => kp b o ?_ ?_ (sb' b o ?_ e)) fun (b : Nat) o hb e => kp b o ?_ ?_ e
    · exact G1.keep (fun o e => kp _ o (by rw [hL1]; exact (show (sb.heap.objs.size : Nat) ≤ L1 by omega)) (by rw [hL1]; exact nn (by omega)) (sb' _ o (by rw [hL1]; exact nn (by omega)) e)) (fun o e => kp _ o (show (sb.heap.objs.size : Nat) ≤ a1 by omega) (nn (by omega)) (sb' _ o (nn (by omega)) e)) fun gs e sl => ot g1 gs hg e (sl (by omega))
    · rcases hb with rfl | hb <;> omega
    · rcases hb with rfl | hb <;> omega
    · rcases hb with rfl | hb <;> omega
    · rcases hb with rfl | rfl | hb <;> omega
    · rcases hb with rfl | rfl | hb <;> omega
  -- the end of the turn: the new tuple is at t
  have fin : ∀ (s4 : Shared) (h' : Heap) (x y : Value) (t : Nat), GenAt X1 A.in1 xs σ1 a1 g1 (k + 1) s4 → GenAt X2 A.in1 ys σ2 a2 g2 (k + 1) s4 → On P w fr H sb s4 → Still xs ys a1 a2 TI S k acc c s4.heap → RelV xs[k] x → RelV ys[k] y → IsPair h' t x y → S < t → (∀ (b : Nat) o, b ≠ z → b ≠ TO → s4.heap.get? b = some o → h'.get? b = some o) →
      (∃ (t' : Nat) (b : Bool), ZipAt h' z TI TO (rawInt t') (.bool b) ∧ S < t' ∧ ∃ o, h'.get? t' = some o) → Q (.ref t) { s4 with heap := h' } := fun s4 h' x y t G1 G2 on4 st4 rx ry ht hSt kp hzp => by
    have st' : Still xs ys a1 a2 TI S k acc c h' := st4.keep fun (b : Nat) o hb e => kp b o (by rcases hb with rfl | hb <;> omega) (by rcases hb with rfl | hb <;> omega) e
    obtain ⟨c', st''⟩ := st'.more hac (by omega) hSt ht hx1 hx2 rx ry
    have kp2 : ∀ (b : Nat) o, b ≠ S → h'.get? b = some o → (h'.update S (Obj.mapSeq (·.push (.ref t)))).get? b = some o := fun (b : Nat) o hb q => (Heap.get?_update_other _ _ (Ne.symm hb)).trans q
    have kp3 : ∀ (b : Nat) o, b ≠ z → b ≠ TO → b ≠ S → s4.heap.get? b = some o → (h'.update S (Obj.mapSeq (·.push (.ref t)))).get? b = some o := fun (b : Nat) o h1 h2 h3 e => kp2 b o h3 (kp b o h1 h2 e)
    refine hQ t _ ⟨acc, c, st'.l, hac⟩ ⟨on4.young rfl on4.bare (fun (b : Nat) o hb e => kp3 b o (by omega) (by omega) (by omega) e) hob, ?_, ?_, st''.ti, .inr ⟨Nat.succ_pos _, ?_⟩, _, _, st''.l, by rw [Array.size_push, hac], st''.items⟩
    · exact G1.keep (fun o e => kp3 _ o (by rw [hL1]; exact nn (by omega)) (by rw [hL1]; exact nn (by omega)) (by rw [hL1]; exact nn (by omega)) e) (fun o e => kp3 _ o (by omega) (by omega) (by omega) e) fun gs e _ => e
    · exact G2.keep (fun o e => kp3 _ o (by rw [hL2]; exact nn (by omega)) (by rw [hL2]; exact nn (by omega)) (by rw [hL2]; exact nn (by omega)) e) (fun o e => kp3 _ o (by omega) (by omega) (by omega) e) fun gs e _ => e
    · obtain ⟨t', b, hz, hlt, o, ho⟩ := hzp
      exact ⟨t', b, kp2 _ _ (by omega) hz, hlt, o, kp2 _ _ (by omega) ho⟩
  have lt : ∀ {s4 : Shared}, Still xs ys a1 a2 TI S k acc c s4.heap → S < s4.heap.objs.size := fun h => lt_heap h.l
  rcases zp with ⟨rfl, hz, hTO⟩ | ⟨hk0, t, b, hz, hSt, ht⟩
  · refine zip_free (a := .none) (b := .none) (P1 := fun v s2 => RelV xs[0] v ∧ GenAt X1 A.in1 xs σ1 a1 g1 1 s2 ∧ GenAt X2 A.in1 ys σ2 a2 g2 0 s2 ∧ On P w fr H sb s2 ∧ Still xs ys a1 a2 TI S 0 acc c s2.heap ∧ ZipAt s2.heap z TI TO .ellipsis (.bool false) ∧ IsPair s2.heap TO .none .none)
      (P2 := fun x y s4 => RelV xs[0] x ∧ RelV ys[0] y ∧ GenAt X1 A.in1 xs σ1 a1 g1 1 s4 ∧ GenAt X2 A.in1 ys σ2 a2 g2 1 s4 ∧ On P w fr H sb s4 ∧ Still xs ys a1 a2 TI S 0 acc c s4.heap ∧ ZipAt s4.heap z TI TO .ellipsis (.bool false) ∧ IsPair s4.heap TO x .none)
      (nn (by omega)) (nn (by omega)) hz ti hTO (fun h' hz' hs => ?_) (fun x s2 q => ?_) fun x y s4 q => ?_
    · exact step1 h' hs fun v s2 rv G1 G2 on2 st2 kp => ⟨rv, G1, G2, on2, st2, kp _ _ (.inr (.inl rfl)) hz', kp _ _ (.inl rfl) ((hs.2 _ (nn (by omega))).trans hTO)⟩
    · obtain ⟨rx, G1, G2, on2, st2, hz2, hTO2⟩ := q
      refine ⟨hz2, hTO2, fun h' hTO' hs => step2 s2 h' G1 G2 on2 st2 hs fun v s4 rv G1' G2' on4 st4 kp => ⟨rx, rv, G1', G2', on4, st4, kp _ _ (.inr (.inl rfl)) ((hs.2 _ (nn (by omega))).trans hz2), kp _ _ (.inl rfl) hTO'⟩⟩
    · obtain ⟨rx, ry, G1, G2, on4, st4, hz4, hTO4⟩ := q
      refine ⟨hz4, hTO4, fun h' hz' hTO' hT hsz kp => ?_⟩
      have l4 := lt st4
      exact fin s4 h' x y _ G1 G2 on4 st4 rx ry hT l4 kp ⟨_, _, hz', l4, _, hT⟩
  · refine zip_kept (P1 := fun v s2 => RelV xs[k] v ∧ GenAt X1 A.in1 xs σ1 a1 g1 (k + 1) s2 ∧ GenAt X2 A.in1 ys σ2 a2 g2 k s2 ∧ On P w fr H sb s2 ∧ Still xs ys a1 a2 TI S k acc c s2.heap ∧ ZipAt s2.heap z TI TO (rawInt t) (.bool true) ∧ ∃ o, s2.heap.get? t = some o)
      (P2 := fun x y s4 => RelV xs[k] x ∧ RelV ys[k] y ∧ GenAt X1 A.in1 xs σ1 a1 g1 (k + 1) s4 ∧ GenAt X2 A.in1 ys σ2 a2 g2 (k + 1) s4 ∧ On P w fr H sb s4 ∧ Still xs ys a1 a2 TI S k acc c s4.heap ∧ ZipAt s4.heap z TI TO (rawInt t) (.bool true) ∧ ∃ o, s4.heap.get? t = some o)
      ht (nn (by omega)) hz ti (fun h' hz' hs => ?_) (fun x s2 q => ?_) fun x y s4 q => ?_
    · obtain ⟨o, ho⟩ := ht
      exact step1 h' hs fun v s2 rv G1 G2 on2 st2 kp => ⟨rv, G1, G2, on2, st2, kp _ _ (.inr (.inl rfl)) hz', o, kp _ _ (.inr (.inr hSt)) ((hs.2 _ (nn (by omega))).trans ho)⟩
    · obtain ⟨rx, G1, G2, on2, st2, hz2, o, ho⟩ := q
      exact step2 s2 s2.heap G1 G2 on2 st2 ⟨rfl, fun _ _ => rfl⟩ fun v s4 rv G1' G2' on4 st4 kp => ⟨rx, rv, G1', G2', on4, st4, kp _ _ (.inr (.inl rfl)) hz2, o, kp _ _ (.inr (.inr hSt)) ho⟩
    · obtain ⟨rx, ry, G1, G2, on4, st4, hz4, o, ho⟩ := q
      have up : ∀ (b : Nat) o, s4.heap.get? b = some o → (s4.heap.push { cls := .type "tuple", data := .seq #[x, y] }).get? b = some o := fun (b : Nat) o e => Heap.get?_push_of_some _ e
      exact fin s4 _ x y _ G1 G2 on4 st4 rx ry (Heap.get?_push_size _ rfl) (lt st4) (fun (b : Nat) o _ _ e => up b o e) ⟨t, true, up _ _ hz4, hSt, o, up _ _ ho⟩
/-- behind the last one -/
theorem zip_last {Q : Value → Shared → Prop} (F1 : Fam X1 P w fr sb H) (O1 : GenOk X1 A.in1 xs σ1 a1 L1) (D : Places sb.heap.objs.size L1 a1 L2 a2 TI TO z S) (hob : HOk P w H sb.heap) (hfr : ∀ b ∈ fr, b < sb.heap.objs.size)
    (hk : k = xs.length) (h0 : 0 < k) (T : ZipTurn P w fr X1 X2 A.in1 xs ys σ1 σ2 a1 g1 a2 g2 TI TO z S H sb k s)
    (hE : ∀ (e : Addr) (s' : Shared) (acc : Array Value) (c : Nat), On P w fr H sb s' → acc.size = k → Still xs ys a1 a2 TI S k acc c s'.heap → (∃ o, s'.heap.get? e = some o ∧ o.cls = .type "StopIteration") → E (.ref e) s') :
    wpAny (model P w) A (Builtin.«zip.__next__» ⟨[.ref z], []⟩) (fun fin s' => ∃ v, fin = .done (.ret v) ∧ Q v s') E s := by
  obtain ⟨⟨d1, d2, d3⟩, ⟨d4, d5, d6, d7, d8⟩, d9, d10, d11, d12, d13⟩ := D
  obtain ⟨on, go1, go2, ti, zp, acc, c, hS, hac, hitems⟩ := T
  have hL1 := O1.loc
  have st : Still xs ys a1 a2 TI S k acc c s.heap := ⟨ti, hS, hitems⟩
  rcases zp with ⟨k0, _⟩ | ⟨_, t, b, hz, hSt, ht⟩
  · omega
  · refine zip_kept (P1 := fun _ _ => False) (P2 := fun _ _ _ => False) ht (nn (by omega)) hz ti (fun h' hz' hs => ?_) (fun x s2 q => q.elim) fun x y s4 q => q.elim
    have sb' : ∀ (b : Nat) o, b ≠ z → s.heap.get? b = some o → h'.get? b = some o := fun (b : Nat) o hb e => (hs.2 b hb).trans e
    refine nextOf_end F1 O1 (go1.keep (fun o e => sb' _ o (by rw [hL1]; exact nn (by omega)) e) (fun o e => sb' _ o (nn (by omega)) e) fun gs e _ => e) (on.young rfl on.bare (fun (b : Nat) o hb e => sb' b o (nn (by omega)) e) hob) hob hfr d1 hk fun e s' on' kp he => ?_
    exact hE e s' acc c on' hac (st.keep fun (b : Nat) o hb q => kp b o (by rcases hb with rfl | hb <;> omega) (by rcases hb with rfl | hb <;> omega) (sb' b o (by rcases hb with rfl | hb <;> omega) q)) he
end
end Ami

set_option Elab.async false
set_option linter.all false
set_option maxRecDepth 100000
set_option maxHeartbeats 2000000
/-! list(zip(g1, g2)) -/
namespace Ami
open PySem PySem.Spec PyProof.Rows L2 GenW
theorem list_of {α : Type} {R : Nat → α → Prop} : ∀ n, (∀ i, i < n → ∃ a, R i a) → ∃ l : List α, l.length = n ∧ ∀ i a, l[i]? = some a → R i a
  | 0, _ => ⟨[], rfl, fun i a h => by simp at h⟩
  | n + 1, h => by
    obtain ⟨l, hl, hr⟩ := list_of n fun i hi => h i (Nat.lt_succ_of_lt hi)
    obtain ⟨a, ha⟩ := h n (Nat.lt_succ_self n)
    refine ⟨l ++ [a], by rw [List.length_append, hl]; rfl, fun i b e => ?_⟩
    by_cases hi : i < n
    · rw [List.getElem?_append_left (by omega)] at e
      exact hr i b e
    · rw [List.getElem?_append_right (by omega), hl] at e
      by_cases hz : i - n = 0
      · rw [hz] at e
        have : i = n := by omega
        subst this
        cases e
        exact ha
      · have e' : ([a] : List α)[i - n]? = none := List.getElem?_eq_none (by show 1 ≤ i - n; omega)
        rw [e'] at e
        cases e
theorem natlt {a b : Nat} (h : a < b) : a < b := h
theorem natle {a b : Nat} (h : a ≤ b) : a ≤ b := h
/-- the list at S of the tuples tz, tracked -/
def zipH (H : Hp) (S : Addr) (tz : List (Addr × V × V)) : Hp := fun b => if b = S then some (.lst (tz.map fun p => V.ref p.1)) else match tz.find? (fun p => p.1 == b) with
  | some p => some (.tup [p.2.1, p.2.2])
  | none => H b
theorem zipH_at {H : Hp} {S : Addr} {tz : List (Addr × V × V)} : zipH H S tz S = some (.lst (tz.map fun p => V.ref p.1)) := by unfold zipH; rw [if_pos rfl]
theorem zipH_old {H : Hp} {S b : Nat} {tz : List (Addr × V × V)} (hS : ∀ p ∈ tz, S < p.1) (h : b < S) : zipH H S tz b = H b := by
  unfold zipH
  rw [if_neg (nn (by omega))]
  have : tz.find? (fun p => p.1 == b) = none := List.find?_eq_none.mpr fun p hp q => by
    have e : p.1 = b := by simpa using q
    have := hS p hp
    rw [e] at this
    omega
  rw [this]
theorem zipH_in {H : Hp} {S : Nat} {tz : List (Addr × V × V)} {p : Addr × V × V} (hS : ∀ p ∈ tz, S < p.1) (hp : p ∈ tz) (un : ∀ q ∈ tz, q.1 = p.1 → q = p) : zipH H S tz p.1 = some (.tup [p.2.1, p.2.2]) := by
  unfold zipH
  have := hS p hp
  rw [if_neg (nn (Nat.ne_of_gt this))]
  cases h : tz.find? (fun q => q.1 == p.1) with
  | none =>
    have := List.find?_eq_none.mp h p hp
    simp at this
  | some q =>
    have h1 := List.mem_of_find?_eq_some h
    have h2 := List.find?_some h
    have e : q = p := un q h1 (by simpa using h2)
    rw [e]
theorem zipH_inv {H : Hp} {S b : Addr} {tz : List (Addr × V × V)} {u : HO} (h : zipH H S tz b = some u) : (b = S ∧ u = .lst (tz.map fun p => V.ref p.1)) ∨ (∃ p ∈ tz, p.1 = b ∧ u = .tup [p.2.1, p.2.2]) ∨ H b = some u := by
  unfold zipH at h
  by_cases hb : b = S
  · rw [if_pos hb] at h
    exact .inl ⟨hb, (Option.some.inj h).symm⟩
  · rw [if_neg hb] at h
    cases e : tz.find? (fun p => p.1 == b) with
    | none => rw [e] at h; exact .inr (.inr h)
    | some p =>
      rw [e] at h
      have h2 := List.find?_some e
      exact .inr (.inl ⟨p, List.mem_of_find?_eq_some e, by simpa using h2, (Option.some.inj h).symm⟩)

/-- an expression whose value is a generator, just made -/
structure PQ (X : Cx) (k : Nat) (e : Expr) (tq : L2.St → Hp → (List V → Prop) → Prop) : Prop where
  run : ∀ (pins : List (Addr × Obj)) (s : Shared) (σ : L2.St) (H : Hp) (W : List V → Prop), Inv X pins σ H s → tq σ H W → wpAny (model X.prog X.w) X.A (eval e X.env) (fun u s' => ∃ xs tk, W xs ∧ Born X.prog X.w X.K X.mg X.base k X.stack H { s with toks := tk } xs u s') X.xe s
def tListZip (t1 t2 : L2.St → Hp → (List V → Prop) → Prop) : TE := fun σ H Q => t1 σ H fun xs => t2 σ H fun ys => xs.length = ys.length ∧ 0 < xs.length ∧ xs.length ≤ 1000 ∧
  ∀ (H' : Hp) (D : Addr) (ts : List Addr), Same H H' → H D = none → H' D = some (.lst (ts.map V.ref)) → ts.length = xs.length → (∀ (i : Nat) (t : Addr) (x y : V), ts[i]? = some t → xs[i]? = some x → ys[i]? = some y → H' t = some (.tup [x, y])) → Q (.ref D) H'
section
variable {X : Cx} {k : Nat} {e1 e2 : Expr} {t1 t2 : L2.St → Hp → (List V → Prop) → Prop} {p pz pos posz : Pos}
theorem pe_listZip (h1 : PQ X k e1 t1) (h2 : PQ X k e2 t2) (hr : Room (k + 5) X.A) (hl : Gl X "list") (ml : X.mg "list" = none) (hz : Gl X "zip") (mz : X.mg "zip" = none)
    (hs : starEach [e1, e2] X.env = (false, eval e1 X.env) :: (false, eval e2 X.env) :: starEach [] X.env := by rfl) (hs0 : starEach [e1, e2] X.env = (false, eval e1 X.env) :: starEach [e2] X.env := by rfl) (hpl : (backTo posz (starEach [e2] X.env)).any (·.1) = false := by rfl)
    (hs1 : starEach [.Call (.Name "zip" pz) [e1, e2] [] posz] X.env = (false, eval (.Call (.Name "zip" pz) [e1, e2] [] posz) X.env) :: starEach [] X.env := by rfl) :
    PE X (.Call (.Name "list" p) [.Call (.Name "zip" pz) [e1, e2] [] posz] [] pos) (tListZip t1 t2) := by
  refine ⟨fun pins s σ H Q I hq => ?_⟩
  refine wpAny_Call_Name_kw (ld_blt I hl ml boot_list ?_ (by decide) (by decide))
  refine PyProof.Rows.callWith_type1 ?_ hs1 rfl
  rw [hs1]
  show wpAny _ _ (spliced ((false, eval (.Call (.Name "zip" pz) [e1, e2] [] posz) X.env) :: backTo pos (starEach [] X.env))) _ _ s
  refine Calls.spliced_cons ?_
  refine wpAny_Call_Name_kw (ld_blt I hz mz boot_zip ?_ (by decide) (by decide))
  refine PyProof.Rows.callWith_type1 ?_ hs0 hpl
  rw [hs]
  show wpAny _ _ (spliced ((false, eval e1 X.env) :: (false, eval e2 X.env) :: backTo posz (starEach [] X.env))) _ _ s
  refine Calls.spliced_cons (thn (h1.run pins s σ H _ I hq) fun u1 s1 ⟨xs, tk1, hW1, b1⟩ => ?_)
  obtain ⟨a1, L1, g1, Xf1, σ1, rfl, p1, p2, p3, p4, p5, o1, bare1, kp1, kg1, eg1, _, born1⟩ := b1
  have kp1 : ∀ b o, s.heap.get? b = some o → s1.heap.get? b = some o := kp1
  have I1 : Inv X pins σ H s1 := I.call' (ch := []) o1 (Un.kept kp1) (I.hok.kept kp1) bare1 fun b hb => absurd hb (by simp)
  refine Calls.spliced_cons (thn (h2.run pins s1 σ H _ I1 hW1) fun u2 s2 ⟨ys, tk2, hW2, b2⟩ => ?_)
  obtain ⟨a2, L2, g2, Xf2, σ2, rfl, q1, q2, q3, q4, q5, o2, bare2, kp2, kg2, eg2, _, born2⟩ := b2
  have kp2 : ∀ b o, s1.heap.get? b = some o → s2.heap.get? b = some o := kp2
  refine Calls.spliced_nil ?_
  obtain ⟨hlen, hpos, hmax, hQ⟩ := hW2
  have hob := I.hok
  have frame : ∀ {A : Around}, A.frames = X.A.frames → A.frames = some X.stack := fun e => e.trans I.ok.frames
  have hA : Room (k + 1) X.A.in1.in1.in1.in1 := (((hr.in1).in1).in1).in1
  -- the two generators
  obtain ⟨P1, W1, fs1, s01, h01, O1, G1⟩ := born1 X.A.in1.in1.in1.in1 X.A s hA I.ok.frames (env1 I.env0) (Nat.le_refl _) rfl Un.refl
  obtain ⟨P2, W2, fs2, s02, h02, O2, G2⟩ := born2 X.A.in1.in1.in1.in1 X.A s hA I.ok.frames (env1 I.env0) (show s.heap.objs.size ≤ s1.heap.objs.size from Nat.le_trans p1 (Nat.le_of_lt p2)) o1 (Un.kept kp1)
  have G1' : GenAt (Xf1 X.A.in1.in1.in1.in1 s) X.A.in1.in1.in1.in1 xs σ1 a1 g1 0 s2 := G1.keep (fun o e => kp2 _ o e) (fun o e => kp2 _ o e) fun gs e _ => kg2 g1 gs e
  have hg : g1 ≠ g2 := by
    obtain ⟨gs, e, _⟩ := G1.st
    have hlt : g1 < s1.gens.size := inBounds e
    have e2 : g2 = s1.gens.size := eg2
    exact Nat.ne_of_lt (by rw [e2]; exact hlt)
  have z1 := G1'.gen
  refine call_zipAny (iterTo_gen z1) (iterTo_gen (s := { s2 with heap := s2.heap }) G2.gen) fun h' hzip hTI hTO hsz kph => ?_
  refine Calls.spliced_nil ?_
  have kall : ∀ b o, s.heap.get? b = some o → h'.get? b = some o := fun b o e => kph b o (kp2 b o (kp1 b o e))
  have D : Places s.heap.objs.size L1 a1 L2 a2 s2.heap.objs.size (s2.heap.objs.size + 1) (s2.heap.objs.size + 2) (s2.heap.objs.size + 3) := by
    have r1 := natle (a := s.heap.objs.size) (b := L1) p1
    have r2 := natlt (a := L1) (b := s1.heap.objs.size) p2
    have r3 := natle (a := s.heap.objs.size) (b := a1) p3
    have r4 := natlt (a := a1) (b := s1.heap.objs.size) p4
    have r5 := natle (a := s1.heap.objs.size) (b := L2) q1
    have r6 := natlt (a := L2) (b := s2.heap.objs.size) q2
    have r7 := natle (a := s1.heap.objs.size) (b := a2) q3
    have r8 := natlt (a := a2) (b := s2.heap.objs.size) q4
    exact ⟨⟨r1, r3, p5⟩, ⟨by omega, by omega, by omega, by omega, q5⟩, by omega, by omega, by omega, by omega, by omega⟩
  have F1 : Fam (Xf1 X.A.in1.in1.in1.in1 s) X.prog X.w (frs X.stack) s H := ⟨P1, W1, fs1, s01, h01⟩
  have F2 : Fam (Xf2 X.A.in1.in1.in1.in1 s) X.prog X.w (frs X.stack) s H := ⟨P2, W2, fs2, s02, h02⟩
  have hfr : ∀ b ∈ frs X.stack, b < s.heap.objs.size := fun b hb => by
    obtain ⟨_, o, ho, _⟩ := I.stack.mem hb
    exact Heap.lt_size ho
  have hS : ({ s2 with heap := h' } : Shared).heap.objs.size = s2.heap.objs.size + 3 := hsz
  refine call_list_zip (s := { s2 with heap := h' }) hzip (fun m s' => ∃ kk, m = xs.length - kk ∧ kk ≤ xs.length ∧ ZipTurn X.prog X.w (frs X.stack) (Xf1 X.A.in1.in1.in1.in1 s) (Xf2 X.A.in1.in1.in1.in1 s) X.A.in1.in1.in1.in1 xs ys σ1 σ2 a1 g1 a2 g2 s2.heap.objs.size (s2.heap.objs.size + 1) (s2.heap.objs.size + 2) (s2.heap.objs.size + 3) H s kk s') xs.length
    (fun h'' hnew kp3 => ⟨0, rfl, Nat.zero_le _, ?_⟩) fun m s' ⟨kk, hm, hkk, T⟩ => ?_
  · have kp3 : ∀ b o, h'.get? b = some o → h''.get? b = some o := kp3
    refine ⟨⟨o2.trans o1, bare2, Un.kept fun b o e => kp3 b o (kall b o e), hob.kept fun b o e => kp3 b o (kall b o e)⟩, G1'.keep (fun o e => kp3 _ o (kph _ o e)) (fun o e => kp3 _ o (kph _ o e)) fun gs e _ => e, G2.keep (fun o e => kp3 _ o (kph _ o e)) (fun o e => kp3 _ o (kph _ o e)) fun gs e _ => e, kp3 _ _ hTI, .inl ⟨rfl, kp3 _ _ hzip, kp3 _ _ hTO⟩, ?_⟩
    rw [hS] at hnew
    rcases hnew with e | ⟨c, e⟩
    · exact ⟨#[], 1, e, rfl, fun i hi => absurd hi (Nat.not_lt_zero i)⟩
    · exact ⟨#[], c, e, rfl, fun i hi => absurd hi (Nat.not_lt_zero i)⟩
  · have hT : s'.TypeIs (.ref (s2.heap.objs.size + 2)) "zip" := by
      rcases T.zp with ⟨_, e, _⟩ | ⟨_, _, _, e, _⟩
      · exact ⟨_, e, rfl⟩
      · exact ⟨_, e, rfl⟩
    unfold pyNext
    refine wpAny_bind (wpAny_attempt (wpAny_callSpecial?_slot (name := Str.ofString "__next__") hT F.slot_zip_next (wpAny_call_entry F.slot_zip_next hT F.entry_zip_next ?_ (F.args_zip_next_1 _))))
    rw [hS]
    by_cases hlt : kk < xs.length
    · refine zip_turn (A := X.A.in1.in1.in1) F1 F2 O1 O2 D hob hfr hg hlen hlt T fun t s4 hl T' => wpAny_pure ?_
      obtain ⟨acc, c, hSl, hac⟩ := hl
      refine ⟨acc, c, hSl, ?_, xs.length - (kk + 1), ?_, kk + 1, rfl, hlt, T'⟩
      · rw [hac]; exact Nat.lt_of_lt_of_le (Nat.lt_of_lt_of_le hlt hmax) (by decide)
      · rw [hm]; omega
    · have hk : kk = xs.length := by omega
      refine zip_last (A := X.A.in1.in1.in1) F1 O1 D hob hfr hk (by omega) T fun e s4 acc c on hac st he => ?_
      obtain ⟨oe, hoe, hce⟩ := he
      refine wpAny_bind (wpAny_isInstance (T := "StopIteration") (b := true) ⟨oe, hoe, hce⟩ isSubtype_stop (wpAny_pure ?_))
      -- the list is told
      obtain ⟨tz, htz, hr⟩ := list_of (R := fun i (q : Addr × V × V) => acc[i]? = some (.ref q.1) ∧ (s2.heap.objs.size + 3 : Nat) < q.1 ∧ xs[i]? = some q.2.1 ∧ ys[i]? = some q.2.2 ∧ ∃ u v, IsPair s4.heap q.1 u v ∧ RelV q.2.1 u ∧ RelV q.2.2 v) kk fun i hi => by
        obtain ⟨t, x, y, u, v, a1, a2, a3, a4, a5, a6, a7⟩ := st.items i hi
        exact ⟨(t, x, y), a1, a2, a4, a5, u, v, a3, a6, a7⟩
      have big : ∀ q ∈ tz, (s2.heap.objs.size + 3 : Nat) < q.1 := fun q hq => by
        obtain ⟨i, hi⟩ := List.getElem?_of_mem hq
        exact (hr i q hi).2.1
      have same : ∀ q ∈ tz, ∀ q' ∈ tz, q'.1 = q.1 → q' = q := fun q hq q' hq' e => by
        obtain ⟨i, hi⟩ := List.getElem?_of_mem hq
        obtain ⟨j, hj⟩ := List.getElem?_of_mem hq'
        obtain ⟨_, _, _, _, u, v, b1, b2, b3⟩ := hr i q hi
        obtain ⟨_, _, _, _, u', v', c1, c2, c3⟩ := hr j q' hj
        rw [e] at c1
        have c1 : s4.heap.get? q.1 = _ := c1
        rw [show s4.heap.get? q.1 = _ from b1] at c1
        have : u = u' ∧ v = v' := by
          have := (Option.some.inj c1)
          injection this with _ _ hd _
          injection hd with hd _
          have h0 : (#[u, v] : Array Value)[0]? = #[u', v'][0]? := by rw [hd]
          have h1 : (#[u, v] : Array Value)[1]? = #[u', v'][1]? := by rw [hd]
          exact ⟨Option.some.inj h0, Option.some.inj h1⟩
        obtain ⟨rfl, rfl⟩ := this
        obtain ⟨qa, qb, qc⟩ := q
        obtain ⟨qa', qb', qc'⟩ := q'
        have e : qa' = qa := e
        subst e
        rw [show qb' = qb from c2.inj b2, show qc' = qc from c3.inj b3]
      have lts : ∀ b u, H b = some u → (b : Nat) < s.heap.objs.size := fun b u e => by
        refine Nat.lt_of_not_le fun z => ?_
        have := hob.fresh z
        rw [e] at this
        cases this
      have hsS : (s.heap.objs.size : Nat) < s2.heap.objs.size + 3 := by
        have r1 := natle (a := s.heap.objs.size) (b := L1) p1
        have r2 := natlt (a := L1) (b := s1.heap.objs.size) p2
        have r5 := natle (a := s1.heap.objs.size) (b := L2) q1
        have r6 := natlt (a := L2) (b := s2.heap.objs.size) q2
        omega
      have old : ∀ (b : Nat), b < s.heap.objs.size → zipH H (s2.heap.objs.size + 3) tz b = H b := fun b hb => zipH_old big (by omega)
      have sm : Same H (zipH H (s2.heap.objs.size + 3) tz) := fun b u e => by
        rw [old b (lts b u e)]; exact e
      refine ⟨.ref (s2.heap.objs.size + 3), zipH H (s2.heap.objs.size + 3) tz, ?_, rfl, hQ _ _ (tz.map (·.1)) sm (hob.fresh (Nat.le_of_lt hsS)) ?_ ?_ ?_⟩
      · refine I.call' (ch := []) on.os ⟨on.un.keep, on.un.slot, fun b o e n _ => ?_, on.un.there, fun b xs e => sm b _ e, fun b o u e => sm b _ e, fun b ps e => ⟨#[], by rw [sm b _ e]; simp⟩⟩ (fun b u e => ?_) on.bare fun b hb => absurd hb (by simp)
        · rw [old b (Heap.lt_size e)]; exact n
        · rcases zipH_inv e with ⟨rfl, rfl⟩ | ⟨q, hq, rfl, rfl⟩ | e
          · refine ⟨by rw [List.length_map, htz, hk]; exact Nat.le_trans hmax (by decide), acc.toList, c, ?_, by rw [Array.toArray_toList]; exact st.l⟩
            refine vals_of_at ?_ fun j x u hx hu => ?_
            · rw [List.length_map, htz, Array.length_toList, hac]
            · rw [List.getElem?_map] at hx
              cases hq : tz[j]? with
              | none => rw [hq] at hx; cases hx
              | some q =>
                rw [hq] at hx
                cases hx
                have a1 := (hr j q hq).1
                rw [Array.getElem?_toList, a1] at hu
                cases hu
                rfl
          · obtain ⟨i, hi⟩ := List.getElem?_of_mem hq
            obtain ⟨_, _, _, _, u, v, b1, b2, b3⟩ := hr i q hi
            exact ⟨by show 2 ≤ sizeLine; decide, [u, v], .cons b2 (.cons b3 .nil), _, b1, rfl, _, rfl⟩
          · exact (on.hok b u e).stay (fun _ _ _ q => q) (fun c q => sm c _ q) fun c xs q => sm c _ q
      · rw [zipH_at, List.map_map]; rfl
      · rw [List.length_map, htz, hk]
      · intro i t x y ht hx hy
        rw [List.getElem?_map] at ht
        cases hq : tz[i]? with
        | none => rw [hq] at ht; cases ht
        | some q =>
          rw [hq] at ht
          cases ht
          obtain ⟨_, _, a3, a4, _⟩ := hr i q hq
          rw [hx] at a3
          rw [hy] at a4
          cases a3
          cases a4
          exact zipH_in big (List.mem_of_getElem? hq) (same q (List.mem_of_getElem? hq))
end
end Ami

set_option Elab.async false
set_option linter.all false
set_option maxRecDepth 100000
set_option maxHeartbeats 2000000
/-! zip(range(..), g) walked by a comprehension: its turns -/
namespace Ami
open PySem PySem.Spec PyProof.Rows L2 GenW
/-- what a walk over a thing whose state is more than the heap's wants -/
structure TurnS (P : Program) (w : World) (K : PySem.W.Frag) (fr : List Addr) (A : Around) (s2 : Shared) (H2 : Hp) (tg : Expr) (J : It) (fp : List Addr) (it : Addr) (tn : Nat → Shared → Prop) : Prop where
  mem : it ∈ fp
  obj : ∀ i s, tn i s → ∀ b ∈ fp, ∃ o, s.heap.get? b = some o ∧ ∀ v, o.data ≠ .cell v
  keep0 : ∀ i s s', tn i s → (∀ b ∈ fp, ∀ o, s.heap.get? b = some o → s'.heap.get? b = some o) → s'.gens = s.gens → tn i s'
  keep : ∀ i s s', tn (i + 1) s → (∀ b ∈ fp, ∀ o, s.heap.get? b = some o → s'.heap.get? b = some o) → KeepsAsleep s s' → tn (i + 1) s'
  item : ∀ (X : Cx), X.prog = P → X.w = w → X.K = K → X.calm = true → frs X.stack = fr → X.A = A → ∀ (i : Nat) (pins : List (Addr × Obj)) (s : Shared) (σ : L2.St) (H : Hp) (E : Value → Shared → Prop), Inv X pins σ H s → (∀ b ∈ fp, FpOk X pins H b) → s.os = s2.os → Un fr fp H2 H s2.heap s.heap → tn i s → J.go i H →
    wpAny (model P w) A (pyNext (.ref it)) (fun r s1 => ∃ u, r = some u ∧ wpAny (model P w) A (letOwnedTupleGo tg (.ref it) u) (fun _ s3 => ∃ x H', Inv X pins σ H' s3 ∧ RelV x u ∧ J.yld i H x H' ∧ tn (i + 1) s3 ∧ ∀ b ∈ fp, H' b = none) E s1) E s
  done : ∀ (X : Cx), X.prog = P → X.w = w → X.K = K → X.calm = true → frs X.stack = fr → X.A = A → ∀ (i : Nat) (pins : List (Addr × Obj)) (s : Shared) (σ : L2.St) (H : Hp) (E : Value → Shared → Prop), Inv X pins σ H s → (∀ b ∈ fp, FpOk X pins H b) → tn i s → J.stop i H →
    wpAny (model P w) A (pyNext (.ref it)) (fun r s1 => r = none ∧ Inv X pins σ H s1) E s
  self : ∀ (i : Nat) (s : Shared) (Q : Value → Shared → Prop) (E : Value → Shared → Prop), tn i s → Q (.ref it) s → wpAny (model P w) A (pyIter (.ref it)) Q E s
section
variable {prog : Program} {w : World} {A : Around} {E : Value → Shared → Prop} {s : Shared}
theorem nextOf_range {it : Addr} {x left step : Int} {Q : Value → Shared → Prop} (h : IsRangeIter s.heap it x left step) (hl : 0 < left)
    (hQ : ∀ h', IsRangeIter h' it (x + step) (left - 1) step → Heap.SameBut it s.heap h' → Q (.int x s.toks) { s with heap := h', toks := s.toks + 1 }) : wpAny (model prog w) A (Builtin.SmallTypes.nextOf (.ref it)) Q E s := by
  have hT : s.TypeIs (.ref it) "range_iterator" := ⟨_, h, rfl⟩
  unfold Builtin.SmallTypes.nextOf
  refine wpAny_bind (wpAny_callSpecial?_slot (name := Str.ofString "__next__") hT F.slot_range_iterator_next
    (call_meets F.slot_range_iterator_next hT F.entry_range_iterator_next (F.args_range_iterator_next_1 _) (AutoRange.range_iterator___next___range_iterator_1 it x left step (by omega)) ⟨h, ?_⟩))
  exact wpAny_pure (hQ _ (Heap.get?_update_self _ (Heap.get?_update_self _ h rfl) rfl) ((Heap.SameBut.update ..).trans (Heap.SameBut.update ..)))
theorem nextOf_rangeEnd {it : Addr} {x left step : Int} {Q : Value → Shared → Prop} (hh : A.handled = none) (h : IsRangeIter s.heap it x left step) (hl : left ≤ 0)
    (hE : ∀ h' e, Heap.ExtBut it s.heap h' → (∃ o, h'.get? e = some o ∧ o.cls = .type "StopIteration") → E (.ref e) { s with heap := h' }) : wpAny (model prog w) A (Builtin.SmallTypes.nextOf (.ref it)) Q E s := by
  have hT : s.TypeIs (.ref it) "range_iterator" := ⟨_, h, rfl⟩
  unfold Builtin.SmallTypes.nextOf
  refine wpAny_bind (wpAny_callSpecial?_slot (name := Str.ofString "__next__") hT F.slot_range_iterator_next
    (wpAny_call_entry F.slot_range_iterator_next hT F.entry_range_iterator_next ?_ (F.args_range_iterator_next_1 _)))
  show wpAny _ _ (field (.ref it) 0 >>= _) _ _ s
  refine wpAny_bind (wpAny_field h rfl (x := rawInt x) rfl ?_)
  show wpAny _ _ (field (.ref it) 1 >>= _) _ _ s
  refine wpAny_bind (wpAny_field h rfl (x := rawInt left) rfl ?_)
  show wpAny _ _ (field (.ref it) 2 >>= _) _ _ s
  refine wpAny_bind (wpAny_field h rfl (x := rawInt step) rfl ?_)
  show wpAny _ _ (if left ≤ 0 then _ else _) _ _ s
  rw [if_pos hl]
  refine wpAny_bind (wpAny_rule (wpAny_bind ?_))
  show wpAny _ _ (newExc (.type "StopIteration") [] >>= _) _ _ _
  refine wpAny_bind ?_
  simp only [newExc, newTuple]
  refine wpAny_bind (wpAny_newObj_type ?_ (by size_fits))
  refine wpAny_bind (m := firstArgMember _ _) (wpAny_of_eq (a := Value.none) (by first | rfl | (simp only [firstArgMember]; rfl)) ?_)
  refine wpAny_newObj_type ?_ (by size_fits)
  simp only [raiseNew]
  refine wpAny_bind (wpAny_handled ?_)
  first | rw [show A.in1.handled = none from hh] | rw [hh]
  refine wpAny_bind (wpAny_pure (wpAny_throw ?_))
  exact hE _ _ (((Heap.ExtBut.refl it s.heap).push _).push _) ⟨_, Heap.get?_push_size _ rfl, rfl⟩
end
end Ami

set_option Elab.async false
set_option linter.all false
set_option maxRecDepth 100000
set_option maxHeartbeats 2000000
/-! zip(range(..), g): its turns -/
namespace Ami
open PySem PySem.Spec PyProof.Rows L2 GenW
/-- first all kept but for what is young, then the rest -/
theorem Un.far {fr fp : List Addr} {H0 H1 H2 : Hp} {h0 h1 h2 : Heap} (a : Un fr [] H0 H1 h0 h1) (b : Un fr fp H1 H2 h1 h2) (y : ∀ c ∈ fp, h0.objs.size ≤ c) : Un fr [] H0 H2 h0 h2 := by
  have no : ∀ {c o}, h0.get? c = some o → c ∉ fp := fun {c o} e z => absurd (Heap.lt_size e) (Nat.not_lt.mpr (y c z))
  refine ⟨fun c o e n h _ => b.keep c o (a.keep c o e n h (by simp)) (a.free c o e n (by simp)) h (no e), fun c o e n h _ => ?_, fun c o e n _ => ?_, fun c o e _ => ?_, fun c xs e => b.tups c xs (a.tups c xs e), fun c o u e => b.frzs c o u (a.frzs c o u e), fun c ps e => ?_⟩
  · obtain ⟨sl, e1⟩ := a.slot c o e n h (by simp)
    obtain ⟨sl2, e2⟩ := b.slot c _ e1 (a.free c o e n (by simp)) h (no e)
    exact ⟨sl2, e2⟩
  · obtain ⟨o', e1⟩ := a.there c o e (by simp)
    exact b.free c o' e1 (a.free c o e n (by simp)) (no e)
  · obtain ⟨o', e1⟩ := a.there c o e (by simp)
    exact b.there c o' e1 (no e)
  · obtain ⟨m1, e1⟩ := a.tbls c ps e
    obtain ⟨m2, e2⟩ := b.tbls c _ e1
    exact ⟨m1 ++ m2, by rw [e2, Array.append_assoc]⟩
/-- young things turned -/
theorem Un.turn {fr : List Addr} {H0 H1 : Hp} {h0 h1 h2 : Heap} (a : Un fr [] H0 H1 h0 h1) (k : ∀ (b : Nat) o, b < h0.objs.size → h1.get? b = some o → h2.get? b = some o) : Un fr [] H0 H1 h0 h2 := by
  refine ⟨fun c o e n h q => k c o (lt_heap e) (a.keep c o e n h q), fun c o e n h q => ?_, a.free, fun c o e q => ?_, a.tups, a.frzs, a.tbls⟩
  · obtain ⟨sl, e1⟩ := a.slot c o e n h q
    exact ⟨sl, k c _ (lt_heap e) e1⟩
  · obtain ⟨o', e1⟩ := a.there c o e q
    exact ⟨o', k c o' (lt_heap e) e1⟩
/-- 0, 1, .. below n beside the items, in new pairs -/
def Itzr (n : Nat) (xs : List V) : It :=
  ⟨fun i _ => i < n, fun i H v H' => ∃ T x, v = .ref T ∧ H T = none ∧ H' = upd H T (.tup [.int i, x]) ∧ xs[i]? = some x, fun i _ => n ≤ i⟩
theorem turn_zipR {P : Program} {w : World} {K : PySem.W.Frag} {fr : List Addr} {A : Around} {sb s2 : Shared} {Hc H2 : Hp} {X1 : Cx} {xs : List V} {σs : Nat → L2.St} {g1 n : Nat} {L1 a1 ri TI TO z : Nat} {elts : List Expr} {kk : Nat} {tpos : Pos} (FM : Fam X1 P w fr sb Hc) (O : GenOk X1 A.in1.in1 xs σs a1 L1) (hn : n ≤ xs.length)
    (d1 : sb.heap.objs.size ≤ L1) (d2 : sb.heap.objs.size ≤ a1) (d3 : a1 ≠ L1) (d4 : L1 < ri ∧ a1 < ri) (d5 : ri < TI) (d6 : TI < TO) (d7 : TO < z) (u0 : Un fr [] Hc H2 sb.heap s2.heap) (os : s2.os = sb.os) (hA : A.handled = none) :
    TurnS P w K fr A s2 H2 (.Tuple elts kk tpos) (Itzr n xs) [z, TI, TO, ri, a1, L1] z (fun i s => ZipAt s.heap z TI TO .none (.bool false) ∧ IsPair s.heap TI (.ref ri) (.ref a1) ∧ (∃ u v, IsPair s.heap TO u v) ∧ IsRangeIter s.heap ri i ((n : Int) - i) 1 ∧ GenAt X1 A.in1.in1 xs σs a1 g1 i s) where
  mem := by simp
  obj := fun i s st c hc => by
    obtain ⟨hz, hTI, ⟨u, v, hTO⟩, hr, hg⟩ := st
    have e' : c = z ∨ c = TI ∨ c = TO ∨ c = ri ∨ c = a1 ∨ c = L1 := by simpa using hc
    rcases e' with q | q | q | q | q | q
    · rw [q]; exact ⟨_, hz, fun v q => nomatch q⟩
    · rw [q]; exact ⟨_, hTI, fun v q => nomatch q⟩
    · rw [q]; exact ⟨_, hTO, fun v q => nomatch q⟩
    · rw [q]; exact ⟨_, hr, fun v q => by
        have q' : Data.fields _ = Data.cell v := q
        cases q'⟩
    · obtain ⟨o, nm, qn, ho, _, hd, _⟩ := hg.gen
      rw [q]; exact ⟨o, ho, fun v q => by rw [hd] at q; cases q⟩
    · obtain ⟨m, ⟨o, es, ep, ho, hd, _⟩, _⟩ := hg.frm
      rw [O.loc] at ho
      rw [q]; exact ⟨o, ho, fun v q => by rw [hd] at q; cases q⟩
  keep0 := fun i s s' st k hg => by
    obtain ⟨hz, hTI, ⟨u, v, hTO⟩, hr, G⟩ := st
    exact ⟨k z (by simp) _ hz, k TI (by simp) _ hTI, ⟨u, v, k TO (by simp) _ hTO⟩, k ri (by simp) _ hr, G.keep (fun o e => k _ (by rw [O.loc]; simp) o e) (fun o e => k a1 (by simp) o e) fun gs e _ => by rw [hg]; exact e⟩
  keep := fun i s s' st k hg => by
    obtain ⟨hz, hTI, ⟨u, v, hTO⟩, hr, G⟩ := st
    exact ⟨k z (by simp) _ hz, k TI (by simp) _ hTI, ⟨u, v, k TO (by simp) _ hTO⟩, k ri (by simp) _ hr, G.keep (fun o e => k _ (by rw [O.loc]; simp) o e) (fun o e => k a1 (by simp) o e) fun gs e sl => hg _ _ e (sl (Nat.succ_pos i))⟩
  item := by
    intro X hP hw hK hc hfr hXA i pins s σ H E I hf hos hun st hgo
    subst hP hw hK hfr hXA
    obtain ⟨hz, hTI, ⟨ua, ub, hTO⟩, hr, G⟩ := st
    have hgo : i < n := hgo
    have hx : xs[i]? = some xs[i] := List.getElem?_eq_getElem (by omega)
    have young : ∀ c ∈ ([z, TI, TO, ri, a1, L1] : List Addr), sb.heap.objs.size ≤ c := fun c hc => by
      have e' : c = z ∨ c = TI ∨ c = TO ∨ c = ri ∨ c = a1 ∨ c = L1 := by simpa using hc
      rcases e' with q | q | q | q | q | q
      · rw [q]; exact natle (a := sb.heap.objs.size) (b := z) (by omega)
      · rw [q]; exact natle (a := sb.heap.objs.size) (b := TI) (by omega)
      · rw [q]; exact natle (a := sb.heap.objs.size) (b := TO) (by omega)
      · rw [q]; exact natle (a := sb.heap.objs.size) (b := ri) (by omega)
      · rw [q]; exact d2
      · rw [q]; exact d1
    have ub0 := Un.far u0 hun young
    have hT : s.TypeIs (.ref z) "zip" := ⟨_, hz, rfl⟩
    have hzl : z < s.heap.objs.size := lt_heap hz
    have hL1 := O.loc
    unfold pyNext
    refine wpAny_bind (wpAny_attempt (wpAny_callSpecial?_slot (name := Str.ofString "__next__") hT F.slot_zip_next (wpAny_call_entry F.slot_zip_next hT F.entry_zip_next ?_ (F.args_zip_next_1 _))))
    have nfs : ∀ c ∈ ([z, TI, TO, ri, a1, L1] : List Addr), c ∉ frs X.stack := fun c hc hm => by
      rcases List.mem_cons.mp (I.stkSub c hm) with q | q
      · exact (hf c hc).2.1 q
      · exact (hf c hc).2.2.1 q
    have hcL : ∀ b ∈ ([L1] : List Addr), (b ∈ X.ex ∨ X.s_0.heap.objs.size ≤ b) ∧ b ≠ X.env.locals ∧ (∀ x c, X.env.cells.lookup x = some c → c ≠ b) ∧ ∀ p ∈ X.pn ++ pins, p.1 ≠ b := fun b hb => by
      rw [List.mem_singleton.mp hb]
      have q := hf L1 (by simp)
      exact ⟨q.2.2.2.1, q.2.1, q.2.2.2.2.1, q.2.2.2.2.2⟩
    refine zip_free (a := ua) (b := ub) (P1 := fun v s2 => RelV (.int i) v ∧ s2.os = s.os ∧ s2.gens = s.gens ∧ (∀ (b : Nat) o, b ≠ z → b ≠ ri → s.heap.get? b = some o → s2.heap.get? b = some o) ∧ ZipAt s2.heap z TI TO .ellipsis (.bool false) ∧ IsRangeIter s2.heap ri (i + 1) ((n : Int) - i - 1) 1)
      (P2 := fun x y s4 => RelV (.int i) x ∧ RelV xs[i] y ∧ GenAt X1 X.A.in1.in1 xs σs a1 g1 (i + 1) s4 ∧ Inv X pins σ H s4 ∧ ZipAt s4.heap z TI TO .ellipsis (.bool false) ∧ IsPair s4.heap TO x ub ∧ IsPair s4.heap TI (.ref ri) (.ref a1) ∧ IsRangeIter s4.heap ri (i + 1) ((n : Int) - i - 1) 1)
      (nn (by omega)) (nn (by omega)) hz hTI hTO (fun h' hz' hs => ?_) (fun x s2 q => ?_) fun x y s4 q => ?_
    · have hr' : IsRangeIter h' ri i ((n : Int) - i) 1 := (hs.2 _ (nn (by omega))).trans hr
      refine nextOf_range (s := { s with heap := h' }) hr' (by omega) fun h'' hr'' hs'' => ⟨⟨_, rfl⟩, rfl, rfl, fun b o h1 h2 e => (hs''.2 b (nn h2)).trans ((hs.2 b (nn h1)).trans e), (hs''.2 _ (nn (by omega))).trans hz', hr''⟩
    · obtain ⟨rx, o2, g2, kp2, hz2, hr2⟩ := q
      have hTO2 : IsPair s2.heap TO ua ub := kp2 _ _ (by omega) (by omega) hTO
      refine ⟨hz2, hTO2, fun h' hTO' hs => ?_⟩
      have kp3 : ∀ (b : Nat) o, b ≠ z → b ≠ ri → b ≠ TO → s.heap.get? b = some o → h'.get? b = some o := fun b o h1 h2 h3 e => (hs.2 b (nn h3)).trans (kp2 b o h1 h2 e)
      have Ic : Inv X pins σ H { s2 with heap := h' } := by
        have J : Inv X pins σ H { s with heap := h', toks := s.toks } := I.turnedL (t' := s.toks) (ch := [z, TI, TO, ri, a1, L1]) (fun c o hb e => kp3 c o (fun q => hb (by simp [q])) (fun q => hb (by simp [q])) (fun q => hb (by simp [q])) e) hf
        exact Inv.gens J rfl o2 (by show AllBare s2.gens; rw [g2]; exact I.bare)
      have uc : Un (frs X.stack) [] Hc H sb.heap h' := Un.turn ub0 fun b o hb e => kp3 b o (by omega) (by omega) (by omega) e
      have G' : GenAt X1 X.A.in1.in1 xs σs a1 g1 i { s2 with heap := h' } := G.keep (fun o e => kp3 _ o (by rw [hL1]; exact nn (by omega)) (by rw [hL1]; exact nn (by omega)) (by rw [hL1]; exact nn (by omega)) e) (fun o e => kp3 _ o (by omega) (by omega) (by omega) e) fun gs e _ => by
        show s2.gens[g1]? = _
        rw [g2]; exact e
      have I1 : Inv X1 [] (σs i) H { s2 with heap := h' } := by
        refine G'.inv O (by omega) ?_ Ic.bare ?_ (hf L1 (by simp)).1 ?_
        · rw [FM.s0]; exact o2.trans (hos.trans os)
        · rw [FM.fs, FM.h0, FM.s0]; exact uc
        · rw [FM.prog, FM.w]; exact Ic.hok
      have run := nextOf_gen (A := X.A.in1) (E := fun e s' => ZipAt s'.heap z TI TO .ellipsis (.bool false) ∧ ∀ h', Heap.SameBut z s'.heap h' → False) (P := fun y s4 => RelV (.int i) x ∧ RelV xs[i] y ∧ GenAt X1 X.A.in1.in1 xs σs a1 g1 (i + 1) s4 ∧ Inv X pins σ H s4 ∧ ZipAt s4.heap z TI TO .ellipsis (.bool false) ∧ IsPair s4.heap TO x ub ∧ IsPair s4.heap TI (.ref ri) (.ref a1) ∧ IsRangeIter s4.heap ri (i + 1) ((n : Int) - i - 1) 1) G' O hx I1 (hf a1 (by simp)).1 fun y s4 ry G4 S4 _ _ => by
        have un4 := S4.un
        rw [FM.fs] at un4
        have kp4 : ∀ (b : Addr) o, b ∈ ([z, TI, TO, ri, a1, L1] : List Addr) → b ≠ L1 → h'.get? b = some o → s4.heap.get? b = some o := fun b o hb hne e => un4.keep b o e (hf b hb).1 (nfs b hb) (by simpa using hne)
        have J4 : Inv X pins σ H s4 := Ic.call' (ch := [L1]) S4.os un4 (by have := S4.hok; rw [FM.prog, FM.w] at this; exact this) S4.bare hcL
        refine ⟨rx, ry, G4, J4, kp4 _ _ (by simp) (nn (by omega)) ((hs.2 _ (nn (by omega))).trans hz2), kp4 _ _ (by simp) (nn (by omega)) hTO', kp4 _ _ (by simp) (nn (by omega)) (kp3 _ _ (by omega) (by omega) (by omega) hTI), kp4 _ _ (by simp) (nn (by omega)) ((hs.2 _ (nn (by omega))).trans hr2)⟩
      rw [FM.prog, FM.w] at run
      exact wpAny_mono run (fun _ _ q => q) fun e s' q => ⟨q.1, fun h' hs => (q.2 h' hs).elim⟩
    · obtain ⟨rx, ry, G4, I4, hz4, hTO4, hTI4, hr4⟩ := q
      refine ⟨hz4, hTO4, fun h' hz' hTO' hT' hsz kp => wpAny_pure ⟨_, rfl, wpAny_letOwnedTupleGo_zip (s := { s4 with heap := h' }) hz' fun h'' hz'' sb2 => ?_⟩⟩
      have hz4l := lt_heap hz4
      have kp5 : ∀ (b : Nat) o, b ≠ z → b ≠ TO → s4.heap.get? b = some o → h''.get? b = some o := fun b o h1 h2 e => (sb2.2 b (nn h1)).trans (kp b o (nn h1) (nn h2) e)
      have hT2 : IsPair h'' s4.heap.objs.size x y := (sb2.2 _ (nn (by omega))).trans hT'
      have new : ObjOk X.prog X.w (upd H s4.heap.objs.size (.tup [.int i, xs[i]])) h'' s4.heap.objs.size (.tup [.int i, xs[i]]) :=
        ⟨by show 2 ≤ sizeLine; decide, [x, y], .cons rx (.cons ry .nil), ⟨_, hT2, rfl, _, rfl⟩⟩
      have I5 : Inv X pins σ (upd H s4.heap.objs.size (.tup [.int i, xs[i]])) { s4 with heap := h'' } :=
        I4.turnedNew (t' := s4.toks) (ch := [z, TI, TO, ri, a1, L1]) (fun c o hb e => kp5 c o (fun q => hb (by simp [q])) (fun q => hb (by simp [q])) e) hf (Nat.le_refl _) new
      have hTil := lt_heap hTI4
      have hTol := lt_heap hTO4
      have hrl := lt_heap hr4
      refine ⟨.ref s4.heap.objs.size, _, I5, rfl, ⟨_, xs[i], rfl, I4.hok.fresh (Nat.le_refl _), rfl, hx⟩, ⟨hz'', kp5 _ _ (by omega) (by omega) hTI4, ⟨x, y, (sb2.2 _ (nn (by omega))).trans hTO'⟩, ?_, ?_⟩, fun c hcm => ?_⟩
      · have e1 : ((i + 1 : Nat) : Int) = (i : Int) + 1 := by omega
        have e2 : (n : Int) - ((i + 1 : Nat) : Int) = (n : Int) - i - 1 := by omega
        show IsRangeIter h'' ri ((i + 1 : Nat) : Int) ((n : Int) - ((i + 1 : Nat) : Int)) 1
        rw [e2, e1]
        exact kp5 _ _ (by omega) (by omega) hr4
      · exact G4.keep (fun o e => kp5 _ o (by rw [hL1]; exact nn (by omega)) (by rw [hL1]; exact nn (by omega)) e) (fun o e => kp5 _ o (by omega) (by omega) e) fun gs e _ => e
      · have hlt : c < s4.heap.objs.size := by
          have e' : c = z ∨ c = TI ∨ c = TO ∨ c = ri ∨ c = a1 ∨ c = L1 := by simpa using hcm
          rcases e' with q | q | q | q | q | q
          · rw [q]; exact hz4l
          · rw [q]; exact hTil
          · rw [q]; exact hTol
          · rw [q]; exact hrl
          · rw [q]; exact natlt (a := a1) (b := s4.heap.objs.size) (by omega)
          · rw [q]; exact natlt (a := L1) (b := s4.heap.objs.size) (by omega)
        rw [upd_ne (Nat.ne_of_lt hlt)]
        exact (hf c hcm).1
  done := by
    intro X hP hw hK hc hfr hXA i pins s σ H E I hf st hstop
    subst hP hw hK hfr hXA
    obtain ⟨hz, hTI, ⟨ua, ub, hTO⟩, hr, G⟩ := st
    have hstop : n ≤ i := hstop
    have hT : s.TypeIs (.ref z) "zip" := ⟨_, hz, rfl⟩
    unfold pyNext
    refine wpAny_bind (wpAny_attempt (wpAny_callSpecial?_slot (name := Str.ofString "__next__") hT F.slot_zip_next (wpAny_call_entry F.slot_zip_next hT F.entry_zip_next ?_ (F.args_zip_next_1 _))))
    refine zip_free (a := ua) (b := ub) (P1 := fun _ _ => False) (P2 := fun _ _ _ => False) (nn (by omega)) (nn (by omega)) hz hTI hTO (fun h' hz' hs => ?_) (fun x s2 q => q.elim) fun x y s4 q => q.elim
    have hr' : IsRangeIter h' ri i ((n : Int) - i) 1 := (hs.2 _ (nn (by omega))).trans hr
    refine nextOf_rangeEnd (s := { s with heap := h' }) hA hr' (by omega) fun h'' e eb he => ?_
    refine ⟨eb _ _ (nn (by omega)) hz', fun h3 hs3 => ?_⟩
    obtain ⟨oe, hoe, hce⟩ := he
    have hez : e ≠ z := fun q => by
      rw [q] at hoe
      rw [show h''.get? z = _ from eb _ _ (nn (by omega)) hz'] at hoe
      cases hoe
      simp at hce
    refine wpAny_bind (wpAny_isInstance (T := "StopIteration") (b := true) ⟨oe, (hs3.2 _ hez).trans hoe, hce⟩ isSubtype_stop (wpAny_pure ⟨rfl, ?_⟩))
    exact Inv.turnedL (s := s) (h' := h3) I (t' := s.toks) (ch := [z, TI, TO, ri, a1, L1]) (fun c o hb q => (hs3.2 c (fun q' => hb (by simp [q']))).trans (eb c o (fun q' => hb (by simp [q'])) ((hs.2 c (fun q' => hb (by simp [q']))).trans q))) hf
  self := fun i s Q E st h => wpAny_pyIter_zip st.1 h
end Ami

set_option Elab.async false
set_option linter.all false
set_option maxRecDepth 100000
set_option maxHeartbeats 2000000
/-! a comprehension over a thing whose state is more than the heap's -/
namespace Ami
open PySem PySem.Spec PyProof.Rows L2 GenW
def PIES (X : Cx) (pins : List (Addr × Obj)) (σ : L2.St) (tg : Expr) (R : It → Hp → Prop) (itv : Value) (s2 : Shared) : Prop :=
  ∃ (it : Addr) (fp : List Addr) (tn : Nat → Shared → Prop) (J : It) (H' : Hp), itv = .ref it ∧ Inv X pins σ H' s2 ∧ TurnS X.prog X.w X.K (frs X.stack) X.A s2 H' tg J fp it tn ∧ tn 0 s2 ∧ (∀ b ∈ fp, FpOk X pins H' b) ∧ R J H'
structure PIS (X : Cx) (tg iter : Expr) (wi : TI) : Prop where
  run : ∀ (pins : List (Addr × Obj)) (s : Shared) (σ : L2.St) (H : Hp) (R : It → Hp → Prop), Inv X pins σ H s → wi σ H R →
    wpAny (model X.prog X.w) X.A (eval iter X.env) (fun v s1 => wpAny (model X.prog X.w) X.A (pyIter v) (PIES X pins σ tg R) X.xe s1) X.xe s
theorem Un.wide {fr fp : List Addr} {H H' : Hp} {h h' : Heap} (u : Un fr [] H H' h h') : Un fr fp H H' h h' :=
  ⟨fun b o e n q _ => u.keep b o e n q (by simp), fun b o e n q _ => u.slot b o e n q (by simp), fun b o e n _ => u.free b o e n (by simp), fun b o e _ => u.there b o e (by simp), u.tups, u.frzs, u.tbls⟩
section
variable {X : Cx}
theorem lc_coreS {pins : List (Addr × Obj)} {s : Shared} {σ : L2.St} {H : Hp} {Q : VK} {elt tg iter : Expr} {ifs : List Expr} {scope : Scope} {own : List (Str × Nat)} {pos pos' : Pos} {wi : TI} {g : TG} {tt : TT} {te : TE} {use : Option (Value → Sem Unit)} {Qf : Value → Shared → Prop}
    (hc : X.calm = true) (hN : X.N.Nodup) (I : Inv X pins σ H s) (hi : PIS X tg iter wi) (ok : BlkOk X.N X.env.scope scope own)
    (hg : ∀ (s : Shared) (H : Hp) (C : Addr) (cl : List (Str × Addr)) (fp : List Addr), PG (X.blk s H scope (compEnvC scope cl C X.env) fp) tg g) (ht : ∀ (s : Shared) (H : Hp) (C : Addr) (cl : List (Str × Addr)) (fp : List Addr), PTs (X.blk s H scope (compEnvC scope cl C X.env) fp) ifs tt)
    (he : ∀ (s : Shared) (H : Hp) (C : Addr) (cl : List (Str × Addr)) (fp : List Addr), PE (X.blk s H scope (compEnvC scope cl C X.env) fp) elt te) (hs : ∀ x, foldedSetIterable iter X.env x = pure x) (h : tLc wi g tt te (own.map (·.2)) σ H Q)
    (hRR : ∀ D C s' m H', Inv X pins σ H' s' → Q (.ref D) H' → s'.heap.Ns C m → FpOk X pins H' C → compPost (model X.prog X.w) X.A X.xe use Qf (.ref D) C (.ok .next) s') :
    wpAny (model X.prog X.w) X.A (comprehension (.ListComp elt [⟨tg, iter, ifs, 0⟩] scope pos) scope X.env pos' (newList []) false (eval iter X.env) use) Qf X.xe s := by
  have inner : ∀ y ∈ scope.names, y.2 = .free → ∃ c, X.env.cells.lookup y.1 = some c := fun y hy e => (ok.free y hy e).elim (fun k => I.ok.has _ (.inl k)) fun k => I.ok.has _ (.inr k)
  refine wpAny_comprehension_free (use := use) rfl hs (closure_ok inner) ok.kind (fun y hy e => by rw [ok.uniq y hy, e]) ?_
  refine thn (hi.run pins s σ H _ I h) fun xv s1 hx => thn hx fun itv s2 h2 => ?_
  obtain ⟨it, fp, tn, J, H2, rfl, I2, T, st2, f2, q⟩ := h2
  refine wpAny_newObj_type (newEnv_comp ?_) (by show 0 ≤ sizeLine; decide)
  generalize hD : s2.heap.objs.size = D
  have hDn : H2 D = none := I2.hok.fresh (Nat.le_of_eq hD)
  obtain ⟨W, ⟨m0, w0⟩, turn⟩ := q D hDn
  generalize hs3 : ({ s2 with heap := s2.heap.push { cls := .type "list", data := .seq ([] : List Value).toArray } } : Shared) = s3
  have h3 : s3.heap = s2.heap.push { cls := .type "list", data := .seq ([] : List Value).toArray } := by rw [← hs3]
  have kept3 : ∀ b o, s2.heap.get? b = some o → s3.heap.get? b = some o := fun b o e => by rw [h3]; exact Heap.get?_push_of_some _ e
  have new3 : ObjOk X.prog X.w (upd H2 D (.lst [])) s3.heap D (.lst []) := ⟨Nat.zero_le _, [], 0, .nil, by rw [h3, ← hD]; exact Heap.get?_push_size _ rfl⟩
  have I3 : Inv X pins σ (upd H2 D (.lst [])) s3 := by
    rw [← hs3]
    exact I2.laid (t' := s2.toks) (fun b o e => Heap.get?_push_of_some _ e) (Nat.le_of_eq hD) (by rw [← hs3] at new3; exact new3)
  have u3 : Un (frs X.stack) [] H2 (upd H2 D (.lst [])) s2.heap s3.heap := Un.laid kept3 (Nat.le_of_eq hD) hDn
  have sz : ∀ b ∈ fp, b < s2.heap.objs.size := fun b hb => let ⟨o, e, _⟩ := T.obj _ _ st2 b hb; Heap.lt_size e
  have f3 : ∀ b ∈ fp, FpOk X pins (upd H2 D (.lst [])) b ∧ b < s3.heap.objs.size := fun b hb => by
    have hlt := sz b hb
    refine ⟨⟨?_, (f2 b hb).2⟩, by rw [h3, Heap.size_push]; exact Nat.lt_succ_of_lt hlt⟩
    rw [upd_ne (by rw [← hD]; exact Nat.ne_of_lt hlt)]
    exact (f2 b hb).1
  have st3 : tn 0 s3 := T.keep0 _ _ _ st2 (fun b _ o e => kept3 b o e) (by rw [← hs3])
  have I4 := block_start I3 ok hN f3
  generalize hcl : cellsFrom (s3.heap.objs.size + 1) scope.names (cloFrom X.env.cells scope.names []) = cl at I4
  have pg := hg s3 (upd H2 D (.lst [])) s3.heap.objs.size cl fp
  have pt := ht s3 (upd H2 D (.lst [])) s3.heap.objs.size cl fp
  have pe := he s3 (upd H2 D (.lst [])) s3.heap.objs.size cl fp
  show codeAny _ _ (.compStart (.ListComp elt [⟨tg, iter, ifs, 0⟩] scope pos) 0 (.ref it) (.ref D) (compEnvC scope cl s3.heap.objs.size X.env))
    (compPost (model X.prog X.w) X.A X.xe use Qf (.ref D) s3.heap.objs.size) { s3 with heap := pushCells (s3.heap.push { cls := .type "dict", data := .dict #[] }) scope.names }
  have none3 : ∀ b ∈ fp, (upd H2 D (.lst [])) b = none := fun b hb => (f3 b hb).1.1
  generalize hce : compEnvC scope cl s3.heap.objs.size X.env = ce at I4 pg pt pe ⊢
  have cL : ce.locals = s3.heap.objs.size := by subst hce; rfl
  generalize hH3 : upd H2 D (.lst []) = H3 at I3 I4 pg pt pe w0 none3 f3 u3
  generalize hs4 : ({ s3 with heap := pushCells (s3.heap.push { cls := .type "dict", data := .dict #[] }) scope.names } : Shared) = s4 at I4 ⊢
  have st4 : tn 0 s4 := T.keep0 _ _ _ st3 (fun b _ o e => by rw [← hs4]; exact pushCells_keeps _ _ _ _ (Heap.get?_push_of_some _ e)) (by rw [← hs4])
  have os3 : s3.os = s2.os := by rw [← hs3]
  have stat : ∀ {σ' : L2.St} {H' : Hp} {s' : Shared}, Inv (X.blk s3 H3 scope ce fp) [] σ' H' s' → (∀ b ∈ fp, H' b = none) → ∀ b ∈ fp, FpOk (X.blk s3 H3 scope ce fp) [] H' b := fun {σ' H' s'} I' hn b hb =>
    ⟨hn b hb, (I'.ok.exf b hb).1, I'.ok.exfs b hb, .inl hb, fun x c e => (I'.ok.exf b hb).2 x c e, fun p hp => absurd (show p ∈ ([] : List (Addr × Obj)) ++ [] from hp) (by simp)⟩
  have far : ∀ {σ' : L2.St} {H' : Hp} {s' : Shared}, Inv (X.blk s3 H3 scope ce fp) [] σ' H' s' → Un (frs X.stack) fp H2 H' s2.heap s'.heap := fun I' => Un.trans (Un.wide u3) I'.base
  have loop : codeAny (model X.prog X.w) X.A (.compLoop (.ListComp elt [⟨tg, iter, ifs, 0⟩] scope pos) 0 (.ref it) (.ref D) ce) (compPost (model X.prog X.w) X.A X.xe use Qf (.ref D) s3.heap.objs.size) s4 := by
    refine compLoop_any (fun n s' => ∃ i H', Inv (X.blk s3 H3 scope ce fp) [] (wipe σ (own.map (·.2))) H' s' ∧ tn i s' ∧ (∀ b ∈ fp, H' b = none) ∧ W i n H') ?_ m0 ⟨0, H3, I4, st4, none3, w0⟩
    rintro n s5 ⟨i, H5, I5, st5, n5, w5⟩
    rcases turn i n H5 w5 with ⟨stop, qq⟩ | ⟨go, Nx, hNx, step⟩
    · refine thnF (T.done (X.blk s3 H3 scope ce fp) rfl rfl rfl hc rfl rfl i [] s5 _ H5 (fun _ _ => False) I5 (stat I5 n5) st5 stop) fun r s6 ⟨hr, I6⟩ => ?_
      subst hr
      have I7 : Inv X pins σ H5 s6 := I3.call' (ch := fp) I6.os I6.base I6.hok I6.bare fun b hb => ⟨(f3 b hb).1.2.2.2.1, (f3 b hb).1.2.1, (f3 b hb).1.2.2.2.2.1, (f3 b hb).1.2.2.2.2.2⟩
      have nC : H5 s3.heap.objs.size = none := by
        have z : H5 ce.locals = none := I6.free
        rw [cL] at z
        exact z
      obtain ⟨m, hn, _⟩ := I6.loc
      have hn : s6.heap.Ns ce.locals m := hn
      rw [cL] at hn
      exact hRR D s3.heap.objs.size s6 m H5 I7 qq hn (I3.fpOk (Nat.le_refl _) nC)
    · refine thnF (T.item (X.blk s3 H3 scope ce fp) rfl rfl rfl hc rfl rfl i [] s5 _ H5 (fun _ _ => False) I5 (stat I5 n5) (I5.os.trans os3) (far I5) st5 go) fun r s6 ⟨u, hr, h6⟩ => ?_
      subst hr
      refine thnF h6 fun _ s7 ⟨x, H7, I7, r7, y7, st7, n7⟩ => ?_
      have I7' := I7.pinned (stat I7 n7) (T.obj _ _ st7)
      have b7 := I7.bare
      -- the target, the tests, the item: no sleeper wakes there
      have I7n := Inv.gens (s' := numbed s7) I7' rfl rfl (numbed_bare b7)
      refine thnF (wpAny_mono (wpAny_asleep (pg.run _ (numbed s7) _ H7 x u _ I7n r7 (step x H7 y7))) (fun _ _ z => z) fun _ _ z => z.elim fun _ z => z.2) fun _ s8 ⟨z8, aw8, σ8, H8, I8z, hw8, q8⟩ => ?_
      have I8 := Inv.gens (s' := s8) I8z aw8.heap aw8.os (aw8.bare b7 I8z.bare)
      have I8n := Inv.gens (s' := numbed s8) I8 rfl rfl (numbed_bare I8.bare)
      refine thnF (wpAny_mono (wpAny_asleep (pt.run _ (numbed s8) σ8 H8 _ I8n q8)) (fun _ _ z => z) fun _ _ z => z.elim fun _ z => z.2) fun b s9 ⟨z9, aw9, H9, I9z, q9⟩ => ?_
      have I9 := Inv.gens (s' := s9) I9z aw9.heap aw9.os (aw9.bare I8.bare I9z.bare)
      have k9 : KeepsAsleep s7 s9 := aw8.keep.trans aw9.keep
      have fin : ∀ {s' : Shared} {H' : Hp}, KeepsAsleep s7 s' → Inv (X.blk s3 H3 scope ce fp) ([] ++ pinsAt fp s7.heap) σ8 H' s' → Nx H' → ∃ m, m < n ∧ ∃ i H', Inv (X.blk s3 H3 scope ce fp) [] (wipe σ (own.map (·.2))) H' s' ∧ tn i s' ∧ (∀ b ∈ fp, H' b = none) ∧ W i m H' := fun {s' H'} kk I' nx => by
        obtain ⟨m', hm, w'⟩ := hNx H' nx
        have pin' : ∀ b ∈ fp, ∀ o, s7.heap.get? b = some o → s'.heap.get? b = some o ∧ H' b = none := fun b hb o e =>
          let z := I'.pin (b, o) (List.mem_append_right _ (List.mem_append_right _ (mem_pinsAt hb e)))
          ⟨z.1, z.2.1⟩
        refine ⟨m', hm, i + 1, H', (I'.unpinned (pins := [])).weak (by rw [← hw8, wipe_length]) (fun j v e => ?_), T.keep _ _ _ st7 (fun b hb o e => (pin' b hb o e).1) kk, fun b hb => ?_, w'⟩
        · rw [← hw8] at e
          exact (wipe_some e).1
        · obtain ⟨o, e, _⟩ := T.obj _ _ st7 b hb
          exact (pin' b hb o e).2
      cases b with
      | false =>
        simp only [Bool.false_eq_true, if_false] at q9 ⊢
        exact fin k9 I9 q9
      | true =>
        simp only [if_true] at q9 ⊢
        have I9n := Inv.gens (s' := numbed s9) I9 rfl rfl (numbed_bare I9.bare)
        refine thnF (wpAny_mono (wpAny_asleep (pe.run _ (numbed s9) σ8 H9 _ I9n q9)) (fun _ _ z => z) fun _ _ z => z.elim fun _ z => z.2) fun z s10 ⟨z10, aw10, yv, H10, I10z, r10, acc, hD10, hz10, nx⟩ => ?_
        have I10 := Inv.gens (s' := s10) I10z aw10.heap aw10.os (aw10.bare I9.bare I10z.bare)
        have I10n := Inv.gens (s' := numbed s10) I10 rfl rfl (numbed_bare I10.bare)
        refine wpAny_mono (wpAny_asleep (E := fun _ _ => False) (app_ok (X := X.blk s3 H3 scope ce fp) (Q := fun _ s11 => Inv (X.blk s3 H3 scope ce fp) ([] ++ pinsAt fp s7.heap) σ8 (upd H10 D (.lst (acc ++ [yv]))) s11) I10n hD10 hz10 r10 fun s11 I11 => I11)) (fun _ s11 ⟨z11, aw11, I11z⟩ => ?_) fun _ _ z => z.elim fun _ z => z.2.elim
        exact fin ((k9.trans aw10.keep).trans aw11.keep) (Inv.gens (s' := s11) I11z aw11.heap aw11.os (aw11.bare I10.bare I11z.bare)) nx
  exact codeAny_compStart_list loop (T.self 0 _ _ _ st4 loop)
/-- name = [..] on one line, the name a local -/
theorem ps_setLcS {i : Nat} {y : Str} {py : Pos} {elt tg iter : Expr} {ifs : List Expr} {scope : Scope} {own : List (Str × Nat)} {pos spos : Pos} {wi : TI} {g : TG} {tt : TT} {te : TE} (hc : X.calm = true) (hN : X.N.Nodup) (hy : X.N[i]? = some y) (hyl : X.env.scope.names.lookup y = some .local)
    (hsw : swapsWith (.ListComp elt [⟨tg, iter, ifs, 0⟩] scope pos) (some (.Name y py)) spos.line X.env = pure true) (hi : PIS X tg iter wi) (ok : BlkOk X.N X.env.scope scope own)
    (hg : ∀ (s : Shared) (H : Hp) (C : Addr) (cl : List (Str × Addr)) (fp : List Addr), PG (X.blk s H scope (compEnvC scope cl C X.env) fp) tg g) (ht : ∀ (s : Shared) (H : Hp) (C : Addr) (cl : List (Str × Addr)) (fp : List Addr), PTs (X.blk s H scope (compEnvC scope cl C X.env) fp) ifs tt)
    (he : ∀ (s : Shared) (H : Hp) (C : Addr) (cl : List (Str × Addr)) (fp : List Addr), PE (X.blk s H scope (compEnvC scope cl C X.env) fp) elt te) (hs : ∀ x, foldedSetIterable iter X.env x = pure x := by intro _; rfl) :
    PS X (.Assign [.Name y py] (.ListComp elt [⟨tg, iter, ifs, 0⟩] scope pos) spos) (tAsg (tLc wi g tt te (own.map (·.2))) (gName i)) := by
  refine ⟨fun pins s σ H D I h => ?_⟩
  rw [exec_Assign_Name_used _ _ _ _ hsw]
  refine wpAny_bind (wpAny_standAt (wpAny_bind ?_))
  show wpAny _ X.A (do let _ ← comprehension (.ListComp elt [⟨tg, iter, ifs, 0⟩] scope pos) scope X.env (firstIterPos [⟨tg, iter, ifs, 0⟩] pos) (newList []) false (eval iter X.env) (some (assign (.Name y py) X.env))) _ _ s
  have h : tLc wi g tt te (own.map (·.2)) σ H (fun x H1 => gName i x σ H1 D.nx) := h
  refine wpAny_bind (thn (lc_coreS (Qf := fun _ s' => SP X pins D .next s') hc hN I hi ok hg ht he hs h fun L C s' m H' I' q hn f => ?_) fun _ s' hq => wpAny_pure (wpAny_pure hq))
  show wpAny _ _ (assign (.Name y py) X.env (.ref L)) _ _ _
  refine wpAny_assign_Name (store_ok2 (v := V.ref L) I' hN hy (.inl hyl) rfl (fun s2 I2 ⟨a, sb, ha⟩ => ?_) (.inr hyl))
  obtain ⟨f0, f1, f2, f3, f4, f5⟩ := f
  have haC : C ≠ a := ha.elim (fun z => by rw [z]; exact f1) fun z e => f4 y a z e.symm
  refine ⟨m, hn.sameBut sb haC, fun h3 sb3 => ?_⟩
  exact ⟨_, H', I2.turned (t' := s2.toks) (fun b o hb e => (sb3.2 b hb).trans e) f0 f1 f3 f4 f5, q⟩
end
end Ami

set_option Elab.async false
set_option linter.all false
set_option maxRecDepth 100000
set_option maxHeartbeats 2000000
/-! zip(range(..), g) in a comprehension -/
namespace Ami
open PySem PySem.Spec PyProof.Rows L2 GenW
def iZipR (tr : L2.St → Hp → (Int → Int → Hp → Prop) → Prop) (tq : L2.St → Hp → (List V → Prop) → Prop) : TI := fun σ H R => tr σ H fun lo hi H1 => ∃ n : Nat, lo = 0 ∧ hi = n ∧ n < 2 ^ 62 ∧ tq σ H1 fun xs => n ≤ xs.length ∧ R (Itzr n xs) H1
theorem pis_zipR {X : Cx} {k : Nat} {er e2 : Expr} {tr : L2.St → Hp → (Int → Int → Hp → Prop) → Prop} {tq : L2.St → Hp → (List V → Prop) → Prop} {pz posz tpos : Pos} {elts : List Expr} {kk : Nat} (h1 : PRg X er tr) (h2 : PQ X k e2 tq) (hr : Room (k + 3) X.A) (hz : Gl X "zip") (mz : X.mg "zip" = none)
    (hs : starEach [er, e2] X.env = (false, eval er X.env) :: (false, eval e2 X.env) :: starEach [] X.env := by rfl) (hs0 : starEach [er, e2] X.env = (false, eval er X.env) :: starEach [e2] X.env := by rfl) (hpl : (backTo posz (starEach [e2] X.env)).any (·.1) = false := by rfl) :
    PIS X (.Tuple elts kk tpos) (.Call (.Name "zip" pz) [er, e2] [] posz) (iZipR tr tq) := by
  refine ⟨fun pins s σ H R I hq => ?_⟩
  refine wpAny_Call_Name_kw (ld_blt I hz mz boot_zip ?_ (by decide) (by decide))
  refine PyProof.Rows.callWith_type1 ?_ hs0 hpl
  rw [hs]
  show wpAny _ _ (spliced ((false, eval er X.env) :: (false, eval e2 X.env) :: backTo posz (starEach [] X.env))) _ _ s
  refine Calls.spliced_cons (thn (h1 pins s σ H _ I hq) fun u1 s1 ⟨r, lo, hi, t1, t2, t3, H1, e1, hrng, I1, hq1⟩ => ?_)
  obtain ⟨n, rfl, rfl, hn62, hq1⟩ := hq1
  subst e1
  refine Calls.spliced_cons (thn (h2.run pins s1 σ H1 _ I1 hq1) fun u2 s2 ⟨xs, tk2, ⟨hn, hR⟩, b2⟩ => ?_)
  obtain ⟨a1, L1, g1, Xf, σs, rfl, p1, p2, p3, p4, p5, o1, bare1, kp1, kg1, eg1, _, born⟩ := b2
  have kp1 : ∀ b o, s1.heap.get? b = some o → s2.heap.get? b = some o := kp1
  refine Calls.spliced_nil ?_
  have hA : Room (k + 1) X.A.in1.in1 := (hr.in1).in1
  obtain ⟨P1, W1, fs1, s01, h01, O1, G1⟩ := born X.A.in1.in1 X.A s1 hA I1.ok.frames (env1 I1.env0) (Nat.le_refl _) rfl Un.refl
  have FM : Fam (Xf X.A.in1.in1 s1) X.prog X.w (frs X.stack) s1 H1 := ⟨P1, W1, fs1, s01, h01⟩
  have up : ∀ b o, s2.heap.get? b = some o → (s2.heap.push { cls := .type "range_iterator", data := .fields #[rawInt 0, rawInt (Builtin.Range.rangeSize 0 n 1), rawInt 1] }).get? b = some o := fun b o e => Heap.get?_push_of_some _ e
  have it1 : IterTo (.ref r) s2.heap.objs.size s2 (s2.heap.push { cls := .type "range_iterator", data := .fields #[rawInt 0, rawInt (Builtin.Range.rangeSize 0 n 1), rawInt 1] }) := fun prog w A Q E q =>
    wpAny_pyIter_range (show IsRange s2.heap r 0 n 1 t1 t2 t3 from kp1 _ _ hrng) (small_one (by omega) (by omega) (by omega) (by omega)) q
  have it2 : IterTo (.ref a1) a1 { s2 with heap := s2.heap.push { cls := .type "range_iterator", data := .fields #[rawInt 0, rawInt (Builtin.Range.rangeSize 0 n 1), rawInt 1] } } _ := iterTo_gen (G1.gen.keeps up)
  refine call_zipAny it1 it2 fun h' hzip hTI hTO hsz kph => ?_
  have hps : (s2.heap.push { cls := .type "range_iterator", data := .fields #[rawInt 0, rawInt (Builtin.Range.rangeSize 0 n 1), rawInt 1] }).objs.size = s2.heap.objs.size + 1 := Heap.size_push ..
  have kall : ∀ b o, s1.heap.get? b = some o → h'.get? b = some o := fun b o e => kph b o (up b o (kp1 b o e))
  have hri : IsRangeIter h' s2.heap.objs.size 0 n 1 := by
    have e2 : Builtin.Range.rangeSize 0 n 1 = (n : Int) := by rw [rangeSize_one]; split <;> omega
    have := kph _ _ (Heap.get?_push_size s2.heap (o := { cls := .type "range_iterator", data := .fields #[rawInt 0, rawInt (Builtin.Range.rangeSize 0 n 1), rawInt 1] }) rfl)
    rw [e2] at this
    exact this
  rw [hps] at hzip hTI hTO
  rw [hps]
  refine wpAny_pyIter_zip (s := { s2 with heap := h' }) (show IsZip h' _ _ _ _ from hzip) ?_
  have r1 := natle (a := s1.heap.objs.size) (b := L1) p1
  have r2 := natlt (a := L1) (b := s2.heap.objs.size) p2
  have r3 := natle (a := s1.heap.objs.size) (b := a1) p3
  have r4 := natlt (a := a1) (b := s2.heap.objs.size) p4
  have I3 : Inv X pins σ H1 { s2 with heap := h' } := I1.call' (s' := { s2 with heap := h' }) (ch := []) o1 (Un.kept kall) (I1.hok.kept kall) bare1 fun b hb => absurd hb (by simp)
  have G3 : GenAt (Xf X.A.in1.in1 s1) X.A.in1.in1 xs σs a1 g1 0 { s2 with heap := h' } := G1.keep (fun o e => kph _ o (up _ o e)) (fun o e => kph _ o (up _ o e)) fun gs e _ => e
  have young : ∀ c ∈ ([s2.heap.objs.size + 1 + 2, s2.heap.objs.size + 1, s2.heap.objs.size + 1 + 1, s2.heap.objs.size, a1, L1] : List Addr), s1.heap.objs.size ≤ c := fun c hc => by
    have e' : c = s2.heap.objs.size + 1 + 2 ∨ c = s2.heap.objs.size + 1 ∨ c = s2.heap.objs.size + 1 + 1 ∨ c = s2.heap.objs.size ∨ c = a1 ∨ c = L1 := by simpa using hc
    rcases e' with q | q | q | q | q | q
    · rw [q]; omega
    · rw [q]; omega
    · rw [q]; omega
    · rw [q]; omega
    · rw [q]; exact p3
    · rw [q]; exact p1
  refine ⟨s2.heap.objs.size + 1 + 2, _, _, _, H1, rfl, I3, turn_zipR (ri := s2.heap.objs.size) (TI := s2.heap.objs.size + 1) (TO := s2.heap.objs.size + 1 + 1) (g1 := g1) FM O1 hn p1 p3 p5 ⟨r2, r4⟩ (by omega) (by omega) (by omega) (Un.kept (h' := h') kall) o1 hr.hd, ⟨hzip, hTI, ⟨_, _, hTO⟩, ?_, G3⟩, fun b hb => ?_, hR⟩
  · show IsRangeIter h' _ ((0 : Nat) : Int) ((n : Int) - ((0 : Nat) : Int)) 1
    simpa using hri
  · exact I1.fpOk (young b hb) (I1.hok.fresh (young b hb))
end Ami

set_option Elab.async false
set_option linter.all false
set_option maxRecDepth 100000
set_option maxHeartbeats 2000000
/-! calls of a generator def; list(g) -/
namespace Ami
open PySem PySem.Spec PyProof.Rows L2 GenW
/-- an expression that leaves all as it is -/
def PEt (X : Cx) (e : Expr) (t : L2.St → (V → Prop) → Prop) : Prop := ∀ (pins : List (Addr × Obj)) (s : Shared) (σ : L2.St) (H : Hp) (W : V → Prop), Inv X pins σ H s → t σ W → wpAny (model X.prog X.w) X.A (eval e X.env) (fun u s' => ∃ v tk, s' = { s with toks := tk } ∧ RelV v u ∧ W v) X.xe s
def PAt (X : Cx) (es : List Expr) (t : L2.St → (List V → Prop) → Prop) : Prop := ∀ (pos : Pos) (pins : List (Addr × Obj)) (s : Shared) (σ : L2.St) (H : Hp) (W : List V → Prop), Inv X pins σ H s → t σ W →
  wpAny (model X.prog X.w) X.A (spliced (backTo pos (starEach es X.env))) (fun us s' => ∃ vs tk, s' = { s with toks := tk } ∧ Vals vs us ∧ W vs) X.xe s
def PKt (X : Cx) (kws : List Keyword) (t : L2.St → (List V → Prop) → Prop) : Prop := ∀ (pos : Pos) (pins : List (Addr × Obj)) (s : Shared) (σ : L2.St) (H : Hp) (W : List V → Prop), Inv X pins σ H s → t σ W →
  wpAny (model X.prog X.w) X.A (evalAll ((backToKw pos (keywordEach kws X.env)).map (·.2))) (fun us s' => ∃ vs tk, s' = { s with toks := tk } ∧ Vals vs us ∧ W vs) X.xe s
section
variable {X : Cx}
def vVar (i : Nat) : L2.St → (V → Prop) → Prop := fun σ W => ∃ v, σ[i]? = some (some v) ∧ W v
def vC (v : V) : L2.St → (V → Prop) → Prop := fun _ W => W v
def vNil : L2.St → (List V → Prop) → Prop := fun _ W => W []
def vCons (a : L2.St → (V → Prop) → Prop) (b : L2.St → (List V → Prop) → Prop) : L2.St → (List V → Prop) → Prop := fun σ W => a σ fun x => b σ fun xs => W (x :: xs)
theorem pet_var {i : Nat} {x : Str} {pos : Pos} (hN : X.N[i]? = some x) (hv : Vis X.env.scope x) (hd : (x == ("__debug__" : Str)) = false := by decide) (hcd : (x == ("__classdict__" : Str)) = false := by decide) : PEt X (.Name x pos) (vVar i) := by
  intro pins s σ H W I h
  obtain ⟨v, e, h⟩ := h
  obtain ⟨m, hn, hl⟩ := I.loc
  obtain ⟨u, r, l⟩ := hl i x v hN e hv
  rcases l with ⟨hk, hm⟩ | ⟨hk | hk, c, hc, hcell⟩
  · exact wpAny_Name (wpAny_loadName_local I.ok.kind hk hn hm ⟨v, s.toks, rfl, r, h⟩) hd
  · exact wpAny_Name (wpAny_loadName_cell I.ok.kind hk hc hcell ⟨v, s.toks, rfl, r, h⟩) hd
  · exact wpAny_Name (wpAny_loadName_free I.ok.kind hk hc hcell ⟨v, s.toks, rfl, r, h⟩ hcd) hd
theorem pet_int {i j pos} : PEt X (.Constant (.int i) j pos) (vC (.int i)) := fun _ _ _ _ _ _ h => wpAny_Constant_int ⟨.int i, _, rfl, ⟨_, rfl⟩, h⟩
theorem pat_nil : PAt X [] vNil := fun _ _ s _ _ _ _ h => Calls.spliced_nil ⟨[], s.toks, rfl, .nil, h⟩
theorem pat_cons {e : Expr} {es : List Expr} {a : L2.St → (V → Prop) → Prop} {b : L2.St → (List V → Prop) → Prop} (ha : PEt X e a) (hb : PAt X es b) (hs : starEach (e :: es) X.env = (false, eval e X.env) :: starEach es X.env := by rfl) : PAt X (e :: es) (vCons a b) := by
  intro pos pins s σ H W I h
  rw [hs]
  show wpAny _ _ (spliced ((false, eval e X.env) :: backTo pos (starEach es X.env))) _ _ s
  refine Calls.spliced_cons (thn (ha pins s σ H _ I h) fun u s1 ⟨x, tk, e1, r1, q1⟩ => ?_)
  subst e1
  exact thn (hb pos pins _ σ H _ (I.tok tk) q1) fun us s2 ⟨xs, tk2, e2, r2, q2⟩ => ⟨x :: xs, tk2, e2, .cons r1 r2, q2⟩
theorem pkt_nil : PKt X [] vNil := fun _ _ s _ _ _ _ h => wpAny_evalAll_nil ⟨[], s.toks, rfl, .nil, h⟩
theorem pkt_cons {nm : Option Str} {e : Expr} {kpos : Pos} {kws : List Keyword} {a : L2.St → (V → Prop) → Prop} {b : L2.St → (List V → Prop) → Prop} (ha : PEt X e a) (hb : PKt X kws b) : PKt X (⟨nm, e, kpos⟩ :: kws) (vCons a b) := by
  intro pos pins s σ H W I h
  show wpAny _ _ (evalAll ((do let v ← eval e X.env; standAt pos; pure v) :: (backToKw pos (keywordEach kws X.env)).map (·.2))) _ _ s
  refine wpAny_evalAll_cons (wpAny_bind (thn (ha pins s σ H _ I h) fun u s1 ⟨x, tk, e1, r1, q1⟩ => wpAny_bind (wpAny_standAt (wpAny_pure ?_))))
  subst e1
  exact thn (hb pos pins _ σ H _ (I.tok tk) q1) fun us s2 ⟨xs, tk2, e2, r2, q2⟩ => ⟨x :: xs, tk2, e2, .cons r1 r2, q2⟩
end
/-- a generator def keeps its promise, by its body -/
theorem Fun.okQ {P : Program} {w : World} {K : PySem.W.Frag} {mg : Str → Option Value} {base : Heap} {k : Nat} {x qual : Str} {st : Stmt} {f : Addr} {fd : FuncData} {N ps : List Str} {sp : SpQ} (F : Fun K x qual st f fd) (S : GScope N ps (defScope st)) (hcells : ∀ n, cellsFrom n (defScope st).names [] = [])
    (len : ∀ vs H xs, sp vs H xs → vs.length = ps.length)
    (hbody : ∀ (cdv : Value) (vs xs : List V) (H : Hp), sp vs H xs → ∃ σs : Nat → L2.St, σs 0 = start N vs ∧ (∀ j, j ≤ xs.length → (σs j).length = N.length) ∧ ∀ (A : Around) (outer : List Env) (s s₀ : Shared),
      Room k (A.deeper (envOfC qual (defScope st) s.heap.objs.size f cdv)) → ∀ s1, InvA (gcx P w K mg base N qual (defScope st) f cdv A outer s s₀ H) (σs 0) s1 →
      Seg (model P w) A (RQ (gcx P w K mg base N qual (defScope st) f cdv A outer s s₀ H) xs σs) (YQ (gcx P w K mg base N qual (defScope st) f cdv A outer s s₀ H) xs σs) xs.length s1 (.func (defBody st) (envOfC qual (defScope st) s.heap.objs.size f cdv))
        ((execs (defBody st) (envOfC qual (defScope st) s.heap.objs.size f cdv)).wrap (fun f => .pure (.done (.ret (match f with | .ret v => v | _ => .none)))) (fun e => (leaving (envOfC qual (defScope st) s.heap.objs.size f cdv) e).wrap (fun _ => .raise e) .raise id id) id id) [] s1) :
    QFn P w K mg base k f fd ps sp := by
  obtain ⟨oc, od, kV, doc, pm, an, cdv, ct, osl, rfl, lk, hcd⟩ := F.ex
  exact qfn_of lk hcd S hcells len (hbody cdv)
section
variable {X : Cx} {k : Nat} {f : Addr} {fd : FuncData} {ps ks : List Str} {sp : SpQ} {x : Str} {p pos : Pos} {e : Expr} {es : List Expr} {kws : List Keyword} {t : L2.St → (List V → Prop) → Prop}
theorem run_qfn {args : Args} {us : List Value} {vs xs : List V} {pins : List (Addr × Obj)} {s : Shared} {σ : L2.St} {H : Hp} {R : Value → Shared → Prop} {E : Value → Shared → Prop} (F : QFn X.prog X.w X.K X.mg X.base k f fd ps sp) (hr : Room k X.A) (I : Inv X pins σ H s) (hb : BindsTo s fd args (ps.zip us)) (r : Vals vs us) (h : sp vs H xs)
    (hR : ∀ u s', Born X.prog X.w X.K X.mg X.base k X.stack H s xs u s' → R u s') : wpAny (model X.prog X.w) X.A (call (.ref f) args.pos args.kw) R E s := by
  refine wpAny_call (codeAny_mono (F.run X.A X.stack s H args us vs xs (by have := hr.dp; omega) hr.hd I.env0 hb r h) fun r s' hq => ?_)
  cases r with
  | error e => exact hq.elim
  | ok fl =>
    cases fl with
    | ret u => exact hR u s' hq
    | _ => exact hq.elim
/-- f(e, ..) -/
theorem pq_call (F : QFn X.prog X.w X.K X.mg X.base k f fd ps sp) (hr : Room k X.A) (hg : Gl X x) (hm : X.mg x = some (.ref f)) (hk : PySem.W.keepIn X.K (.ref f) = true) (hb : Binds X.K fd ps []) (ha : PAt X (e :: es) t) (hdb : (x == ("__debug__" : Str)) = false := by decide)
    (he : starEach (e :: es) X.env = (false, eval e X.env) :: starEach es X.env := by rfl) (hpl : (backTo pos (starEach es X.env)).any (·.1) = false := by rfl) :
    PQ X k (.Call (.Name x p) (e :: es) [] pos) (fun σ H W => t σ fun vs => ∃ xs, sp vs H xs ∧ W xs) := by
  refine ⟨fun pins s σ H W I h => ?_⟩
  refine wpAny_Call_Name_kw (ld_glob I hg hm ?_ hdb)
  refine PySem.W.callWith_K (h₀ := X.base) I.ok.mod.kin hk (thn (ha pos pins s σ H _ I h) fun us s1 ⟨vs, tk, e1, r, xs, q, hW⟩ => ?_) he hpl
  subst e1
  have I1 := I.tok tk
  refine ⟨I1.kIn, run_qfn (args := ⟨us, []⟩) (us := us) F hr I1 ?_ r q fun u s' b => ⟨xs, tk, hW, b⟩⟩
  have := hb _ us I1.kIn (by rw [List.append_nil, ← r.length]; exact F.len _ _ _ q)
  rw [List.append_nil] at this
  exact this
/-- f(k = v, ..) -/
theorem pq_callK {g : List Value → List Value → List Value} {gV : List V → List V → List V} (F : QFn X.prog X.w X.K X.mg X.base k f fd ps sp) (hr : Room k X.A) (hg : Gl X x) (hm : X.mg x = some (.ref f)) (hk : PySem.W.keepIn X.K (.ref f) = true) (hb : KBinds X.K fd ps ks g gV) (hkw : PKt X kws t)
    (hall : (backToKw pos (keywordEach kws X.env)).all (·.1.isSome) = true := by rfl) (hks : (backToKw pos (keywordEach kws X.env)).filterMap (·.1) = ks := by rfl) (hdb : (x == ("__debug__" : Str)) = false := by decide)
    (hpl : ((backTo pos (starEach [] X.env)).any (·.1) || (backToKw pos (keywordEach kws X.env)).any (·.1.isNone)) = false := by rfl) :
    PQ X k (.Call (.Name x p) [] kws pos) (fun σ H W => t σ fun zs => ∃ xs, sp (gV [] zs) H xs ∧ W xs) := by
  refine ⟨fun pins s σ H W I h => ?_⟩
  refine wpAny_Call_Name_kw (ld_glob I hg hm ?_ hdb)
  refine PySem.W.callWith_KW0 (h₀ := X.base) I.ok.mod.kin hk hall ?_ hpl
  refine thn (hkw pos pins s σ H _ I h) fun ws s1 ⟨zs, tk, e1, r, xs, q, hW⟩ => ?_
  subst e1
  have I1 := I.tok tk
  refine ⟨I1.kIn, ?_⟩
  rw [hks]
  have r2 := hb.rel (vs := []) (us := []) .nil r
  exact run_qfn (args := ⟨[], ks.zip ws⟩) (us := g [] ws) F hr I1 (hb.to _ [] ws I1.kIn (by rw [← r2.length]; exact F.len _ _ _ q)) r2 q fun u s' b => ⟨xs, tk, hW, b⟩
end

/-! ### list(g) -/
theorem gen_iter_len : typeLookup (.type "generator") "__len__" = pure none := by rw [typeLookup_type, builtinLookup_eq_fast]; kernel_rfl
theorem gen_iter_hint : typeLookup (.type "generator") "__length_hint__" = pure none := by rw [typeLookup_type, builtinLookup_eq_fast]; kernel_rfl
section
variable {P : Program} {w : World} {fr : List Addr} {sb s : Shared} {H : Hp} {X : Cx} {A : Around} {xs : List V} {σs : Nat → L2.St} {a L : Addr} {g k : Nat} {E : Value → Shared → Prop} {x : V}
theorem specG {Q : Option Value → Shared → Prop} (FM : Fam X P w fr sb H) (O : GenOk X A.in1 xs σs a L) (G : GenAt X A.in1 xs σs a g k s) (B : On P w fr H sb s) (hob : HOk P w H sb.heap) (hfr : ∀ b ∈ fr, b < sb.heap.objs.size) (hL : sb.heap.objs.size ≤ L) (ha : sb.heap.objs.size ≤ a) (hx : xs[k]? = some x)
    (hQ : ∀ v s', RelV x v → GenAt X A.in1 xs σs a g (k + 1) s' → On P w fr H sb s' → (∀ b o, sb.heap.objs.size ≤ b → b ≠ L → s.heap.get? b = some o → s'.heap.get? b = some o) → Q (some v) s') : wpAny (model P w) A (callSpecial? (.ref a) "__next__") Q E s := by
  have I := B.inv FM O G (Nat.le_of_lt (List.getElem?_eq_some_iff.mp hx).1) (hob.fresh hL)
  obtain ⟨rfl, rfl, rfl, rfl, rfl⟩ := FM
  refine wpAny_callSpecial?_slot (name := Str.ofString "__next__") G.gen.typeIs slot_gen_next (wpAny_call_entry slot_gen_next G.gen.typeIs entry_gen_next ?_ (args_gen_next _))
  show wpAny _ A.in1 (Builtin.Generator.genWake (.ref a) (.send .none)) _ _ s
  refine gen_item G O hx I (hob.fresh ha) fun v s' rv G' way _ _ => ⟨v, rfl, ?_⟩
  have J := way _ I
  have u := Way.keeps O.bare way I
  rw [O.loc] at u
  have ne : ∀ {b o}, X.s_0.heap.get? b = some o → b ∉ [L] := fun {b o} e q => by
    have lt := Heap.lt_size e
    rw [List.mem_singleton.mp q] at lt
    exact absurd lt (Nat.not_lt.mpr hL)
  refine hQ v s' rv G' ⟨J.os, J.bare, ⟨fun b o e n h1 _ => u.keep b o (B.un.keep b o e n h1 (by simp)) n h1 (ne e), fun b o e n h1 _ => ?_, fun b o e n _ => n, fun b o e _ => ?_, u.tups, u.frzs, u.tbls⟩, J.hok⟩ fun b o hb h1 e => u.keep b o e (hob.fresh hb) (fun z => absurd (hfr b z) (Nat.not_lt.mpr hb)) (by simpa using h1)
  · obtain ⟨sl, e1⟩ := B.un.slot b o e n h1 (by simp)
    obtain ⟨sl2, e2⟩ := u.slot b _ e1 n h1 (ne e)
    exact ⟨sl2, e2⟩
  · obtain ⟨o', e1⟩ := B.un.there b o e (by simp)
    exact u.there b o' e1 (ne e)
theorem specG_end {Q : Option Value → Shared → Prop} (FM : Fam X P w fr sb H) (O : GenOk X A.in1 xs σs a L) (G : GenAt X A.in1 xs σs a g k s) (B : On P w fr H sb s) (hob : HOk P w H sb.heap) (hfr : ∀ b ∈ fr, b < sb.heap.objs.size) (hL : sb.heap.objs.size ≤ L) (hk : k = xs.length)
    (hE : ∀ e s', On P w fr H sb s' → (∀ b o, sb.heap.objs.size ≤ b → b ≠ L → s.heap.get? b = some o → s'.heap.get? b = some o) → (∃ o, s'.heap.get? e = some o ∧ o.cls = .type "StopIteration") → E (.ref e) s') : wpAny (model P w) A (callSpecial? (.ref a) "__next__") Q E s := by
  have I := B.inv FM O G (Nat.le_of_eq hk) (hob.fresh hL)
  obtain ⟨rfl, rfl, rfl, rfl, rfl⟩ := FM
  refine wpAny_callSpecial?_slot (name := Str.ofString "__next__") G.gen.typeIs slot_gen_next (wpAny_call_entry slot_gen_next G.gen.typeIs entry_gen_next ?_ (args_gen_next _))
  show wpAny _ A.in1 (Builtin.Generator.genWake (.ref a) (.send .none)) _ _ s
  refine gen_done G O hk I fun e s' h1 h2 u h4 he => ?_
  have ne : ∀ {b o}, X.s_0.heap.get? b = some o → b ∉ [L] := fun {b o} e q => by
    have lt := Heap.lt_size e
    rw [List.mem_singleton.mp q] at lt
    exact absurd lt (Nat.not_lt.mpr hL)
  refine hE e s' ⟨h1.trans B.os, h2, ⟨fun b o e n h1 _ => u.keep b o (B.un.keep b o e n h1 (by simp)) n h1 (ne e), fun b o e n h1 _ => ?_, fun b o e n _ => n, fun b o e _ => ?_, u.tups, u.frzs, u.tbls⟩, h4⟩ (fun b o hb h1 e => u.keep b o e (hob.fresh hb) (fun z => absurd (hfr b z) (Nat.not_lt.mpr hb)) (by simpa using h1)) he
  · obtain ⟨sl, e1⟩ := B.un.slot b o e n h1 (by simp)
    obtain ⟨sl2, e2⟩ := u.slot b _ e1 n h1 (ne e)
    exact ⟨sl2, e2⟩
  · obtain ⟨o', e1⟩ := B.un.there b o e (by simp)
    exact u.there b o' e1 (ne e)
end
def tListQ (tq : L2.St → Hp → (List V → Prop) → Prop) : TE := fun σ H Q => tq σ H fun xs => xs.length ≤ 1000 ∧ ∀ p, H p = none → Q (.ref p) (upd H p (.lst xs))
theorem pe_listQ {X : Cx} {k : Nat} {e : Expr} {tq : L2.St → Hp → (List V → Prop) → Prop} {p pos : Pos} (h : PQ X k e tq) (hr : Room (k + 4) X.A) (hl : Gl X "list") (ml : X.mg "list" = none) (hs : starEach [e] X.env = (false, eval e X.env) :: starEach [] X.env := by rfl) :
    PE X (.Call (.Name "list" p) [e] [] pos) (tListQ tq) := by
  refine ⟨fun pins s σ H Q I hq => ?_⟩
  refine wpAny_Call_Name_kw (ld_blt I hl ml boot_list ?_ (by decide) (by decide))
  refine PyProof.Rows.callWith_type1 ?_ hs rfl
  rw [hs]
  show wpAny _ _ (spliced ((false, eval e X.env) :: backTo pos (starEach [] X.env))) _ _ s
  refine Calls.spliced_cons (thn (h.run pins s σ H _ I hq) fun u1 s1 ⟨xs, tk1, ⟨hmax, hQ⟩, b1⟩ => ?_)
  obtain ⟨a, L, g, Xf, σs, rfl, p1, p2, p3, p4, p5, o1, bare1, kp1, _, _, _, born⟩ := b1
  have kp1 : ∀ b o, s.heap.get? b = some o → s1.heap.get? b = some o := kp1
  refine Calls.spliced_nil ?_
  have hA : Room (k + 1) X.A.in1.in1.in1 := ((hr.in1).in1).in1
  obtain ⟨P1, W1, fs1, s01, h01, O, G⟩ := born X.A.in1.in1.in1 X.A s hA I.ok.frames (env1 I.env0) (Nat.le_refl _) rfl Un.refl
  have FM : Fam (Xf X.A.in1.in1.in1 s) X.prog X.w (frs X.stack) s H := ⟨P1, W1, fs1, s01, h01⟩
  have hob := I.hok
  have hfr : ∀ b ∈ frs X.stack, b < s.heap.objs.size := fun b hb => by
    obtain ⟨_, o, ho, _⟩ := I.stack.mem hb
    exact Heap.lt_size ho
  have r1 := natle (a := s.heap.objs.size) (b := L) p1
  have r2 := natlt (a := L) (b := s1.heap.objs.size) p2
  have r3 := natle (a := s.heap.objs.size) (b := a) p3
  have r4 := natlt (a := a) (b := s1.heap.objs.size) p4
  refine call_list_it G.gen.typeIs gen_iter_len gen_iter_hint (by decide) (by decide) (fun h' kk => iterTo_gen (s := { s1 with heap := h' }) (G.gen.keeps kk))
    (fun m s' => ∃ kk acc c, m = xs.length - kk ∧ kk ≤ xs.length ∧ On X.prog X.w (frs X.stack) H s s' ∧ GenAt (Xf X.A.in1.in1.in1 s) X.A.in1.in1.in1 xs σs a g kk s' ∧ s'.heap.get? s1.heap.objs.size = some (lstObj acc c) ∧ Vals (xs.take kk) acc.toList) xs.length
    (fun h'' hnew kp3 => ?_) fun m s' ⟨kk, acc, c, hm, hkk, on, G', hS, hv⟩ => ?_
  · have on : On X.prog X.w (frs X.stack) H s { s1 with heap := h'' } := ⟨o1, bare1, Un.kept fun b o e => kp3 b o (kp1 b o e), hob.kept fun b o e => kp3 b o (kp1 b o e)⟩
    have G0 := G.keep (s' := { s1 with heap := h'' }) (fun o e => kp3 _ o e) (fun o e => kp3 _ o e) fun gs e _ => e
    rcases hnew with e | ⟨c, e⟩
    · exact ⟨0, #[], 1, rfl, Nat.zero_le _, on, G0, e, .nil⟩
    · exact ⟨0, #[], c, rfl, Nat.zero_le _, on, G0, e, .nil⟩
  · unfold pyNext
    have hac : acc.size = kk := by
      have h1 := hv.length
      have h2 : acc.toList.length = acc.size := Array.length_toList
      rw [List.length_take] at h1
      omega
    by_cases hlt : kk < xs.length
    · have hx : xs[kk]? = some xs[kk] := List.getElem?_eq_getElem hlt
      refine wpAny_bind (wpAny_attempt (specG (A := X.A.in1.in1) FM O G' on hob hfr p1 p3 hx fun v s4 rv G4 on4 kp4 => wpAny_pure ?_))
      have hS4 := kp4 s1.heap.objs.size _ (by omega) (nn (by omega)) hS
      refine ⟨acc, c, hS4, ?_, xs.length - (kk + 1), by omega, kk + 1, _, _, rfl, hlt, on4.young rfl on4.bare (fun b o hb e => (Heap.get?_update_other _ _ (nn (by have := natlt (a := b) (b := s.heap.objs.size) hb; omega))).trans e) hob, G4.keep (fun o e => (Heap.get?_update_other _ _ ?_).trans e) (fun o e => (Heap.get?_update_other _ _ (nn (by omega))).trans e) fun gs e _ => e, Heap.get?_update_self _ hS4 rfl, ?_⟩
      · rw [hac]; exact Nat.lt_of_lt_of_le (Nat.lt_of_lt_of_le hlt hmax) (by decide)
      · rw [O.loc]; exact nn (by omega)
      · rw [Array.toList_push, List.take_add_one, hx]
        exact hv.append (.cons rv .nil)
    · have hk : kk = xs.length := by omega
      refine wpAny_bind (wpAny_attempt (specG_end (A := X.A.in1.in1) FM O G' on hob hfr p1 hk fun e s4 on4 kp4 he => ?_))
      obtain ⟨oe, hoe, hce⟩ := he
      refine wpAny_bind (wpAny_isInstance (T := "StopIteration") (b := true) ⟨oe, hoe, hce⟩ isSubtype_stop (wpAny_pure ?_))
      have hS4 := kp4 s1.heap.objs.size _ (by omega) (nn (by omega)) hS
      have hn : H s1.heap.objs.size = none := hob.fresh (show s.heap.objs.size ≤ s1.heap.objs.size by omega)
      have J : Inv X pins σ H s4 := I.call' (ch := []) on4.os on4.un on4.hok on4.bare fun b hb => absurd hb (by simp)
      have hv' : Vals xs acc.toList := by
        rw [hk, List.take_length] at hv
        exact hv
      refine ⟨.ref s1.heap.objs.size, upd H s1.heap.objs.size (.lst xs), ?_, rfl, hQ _ hn⟩
      refine I.call' (ch := []) on4.os ⟨on4.un.keep, on4.un.slot, fun b o q n _ => ?_, on4.un.there, fun b ys q => ?_, fun b o u q => ?_, fun b ps q => ⟨#[], ?_⟩⟩ (fun b u q => ?_) on4.bare fun b hb => absurd hb (by simp)
      · rw [upd_ne (nn (by have := lt_heap q; omega))]; exact n
      · rw [upd_ne (ne_of_none q hn)]; exact q
      · rw [upd_ne (ne_of_none q hn)]; exact q
      · rw [upd_ne (ne_of_none q hn), q]; simp
      · by_cases hb : b = s1.heap.objs.size
        · subst hb
          rw [upd_same] at q
          cases q
          exact ⟨Nat.le_trans hmax (by decide), acc.toList, c, hv', by rw [Array.toArray_toList]; exact hS4⟩
        · rw [upd_ne hb] at q
          exact (on4.hok b u q).stay (fun _ _ _ z => z) (fun d z => by rw [upd_ne (ne_of_none z hn)]; exact z) fun d zs z => by rw [upd_ne (ne_of_none z hn)]; exact z
end Ami

set_option Elab.async false
set_option linter.all false
set_option maxRecDepth 100000
set_option maxHeartbeats 2000000
/-! the next item of a generator, as a loop asks for it -/
namespace Ami
open PySem PySem.Spec PyProof.Rows L2 GenW
section
variable {X : Cx} {A : Around} {xs : List V} {σs : Nat → L2.St} {a L : Addr} {g k : Nat} {s : Shared} {H : Hp} {E : Value → Shared → Prop} {x : V}
theorem pyNext_gen {Q : Option Value → Shared → Prop} (G : GenAt X A.in1 xs σs a g k s) (O : GenOk X A.in1 xs σs a L) (hx : xs[k]? = some x) (I : Inv X [] (σs k) H s) (ha : H a = none)
    (hQ : ∀ v s', RelV x v → GenAt X A.in1 xs σs a g (k + 1) s' → Stepped X L H s s' → Others g s s' → (k = 0 → Others0 g s s') → Q (some v) s') : wpAny (model X.prog X.w) A (pyNext (.ref a)) Q E s := by
  unfold pyNext
  refine wpAny_bind (wpAny_attempt (wpAny_callSpecial?_slot (name := Str.ofString "__next__") G.gen.typeIs slot_gen_next (wpAny_call_entry slot_gen_next G.gen.typeIs entry_gen_next ?_ (args_gen_next _))))
  show wpAny _ A.in1 (Builtin.Generator.genWake (.ref a) (.send .none)) _ _ s
  refine gen_item G O hx I ha fun v s' rv G' way ot ot0 => ⟨v, rfl, wpAny_pure (hQ v s' rv G' ?_ ot ot0)⟩
  have J := way H I
  have u := Way.keeps O.bare way I
  rw [O.loc] at u
  exact ⟨J.os.trans I.os.symm, J.bare, u, J.hok⟩
theorem pyNext_done {Q : Option Value → Shared → Prop} (G : GenAt X A.in1 xs σs a g k s) (O : GenOk X A.in1 xs σs a L) (hk : k = xs.length) (I : Inv X [] (σs k) H s)
    (hE : ∀ s', Stepped X L H s s' → Q none s') : wpAny (model X.prog X.w) A (pyNext (.ref a)) Q E s := by
  unfold pyNext
  refine wpAny_bind (wpAny_attempt (wpAny_callSpecial?_slot (name := Str.ofString "__next__") G.gen.typeIs slot_gen_next (wpAny_call_entry slot_gen_next G.gen.typeIs entry_gen_next ?_ (args_gen_next _))))
  show wpAny _ A.in1 (Builtin.Generator.genWake (.ref a) (.send .none)) _ _ s
  refine gen_done G O hk I fun e s' h1 h2 h3 h4 h5 => ?_
  obtain ⟨oe, hoe, hce⟩ := h5
  exact wpAny_bind (wpAny_isInstance (T := "StopIteration") (b := true) ⟨oe, hoe, hce⟩ isSubtype_stop (wpAny_pure (hE s' ⟨h1, h2, h3, h4⟩)))
end
end Ami

set_option Elab.async false
set_option linter.all false
set_option maxRecDepth 100000
set_option maxHeartbeats 2000000
/-! a loop's body in a context whose base is the loop's start -/
namespace Ami
open PySem PySem.Spec PyProof.Rows L2 GenW
/-- the heap below an address -/
def cutH (n : Nat) (h : Heap) : Heap := { h with objs := h.objs.extract 0 n }
theorem cutH_at {n : Nat} {h : Heap} {b : Nat} (hb : b < n) : (cutH n h).get? b = h.get? b := by
  unfold cutH Heap.get?
  have e : (h.objs.extract 0 n)[b]? = h.objs[b]? := by
    rw [Array.getElem?_extract]
    simp only [Nat.sub_zero, Nat.zero_add]
    by_cases h2 : b < h.objs.size
    · rw [if_pos (by omega)]
    · rw [Array.getElem?_eq_none (by omega)]
      split <;> rfl
  rw [e]
theorem cutH_lt {n : Nat} {h : Heap} {b : Nat} {o : Obj} (e : (cutH n h).get? b = some o) : b < n ∧ h.get? b = some o := by
  have hs : b < (cutH n h).objs.size := Heap.lt_size e
  have hb : b < n := by
    have : (cutH n h).objs.size = min n h.objs.size := by
      show (h.objs.extract 0 n).size = _
      rw [Array.size_extract, Nat.sub_zero]
    have hs' : (b : Nat) < min n h.objs.size := by rw [← this]; exact hs
    omega
  exact ⟨hb, by rw [← cutH_at hb]; exact e⟩
/-- the context whose base is the state s, what is tracked there is H -/
abbrev reb (X : Cx) (s : Shared) (H : Hp) : Cx := { X with s_0 := { X.s_0 with heap := cutH X.s_0.heap.objs.size s.heap }, H_0 := H }
section
variable {X : Cx} {pins : List (Addr × Obj)} {σ σ' : L2.St} {H H' : Hp} {s s' : Shared}
/-- what the new context says holds in the old one too -/
theorem Un.back (u : Un X.fs X.ex X.H_0 H X.s_0.heap s.heap) (v : Un X.fs X.ex H H' (cutH X.s_0.heap.objs.size s.heap) s'.heap) : Un X.fs X.ex X.H_0 H' X.s_0.heap s'.heap where
  keep := fun b o e n h1 h2 => v.keep b o (by rw [cutH_at (Heap.lt_size e)]; exact u.keep b o e n h1 h2) (u.free b o e n h2) h1 h2
  slot := fun b o e n h1 h2 => by
    obtain ⟨sl, e1⟩ := u.slot b o e n h1 h2
    obtain ⟨sl2, e2⟩ := v.slot b _ (by rw [cutH_at (Heap.lt_size e)]; exact e1) (u.free b o e n h2) h1 h2
    exact ⟨sl2, e2⟩
  free := fun b o e n h2 => by
    obtain ⟨sl, e1⟩ := u.any e n h2
    exact v.free b _ (by rw [cutH_at (Heap.lt_size e)]; exact e1) (u.free b o e n h2) h2
  there := fun b o e h2 => by
    obtain ⟨o1, e1⟩ := u.there b o e h2
    exact v.there b o1 (by rw [cutH_at (Heap.lt_size e)]; exact e1) h2
  tups := fun b xs e => v.tups b xs (u.tups b xs e)
  frzs := fun b o x e => v.frzs b o x (u.frzs b o x e)
  tbls := fun b ps e => by
    obtain ⟨m1, e1⟩ := u.tbls b ps e
    obtain ⟨m2, e2⟩ := v.tbls b _ e1
    exact ⟨m1 ++ m2, by rw [e2, Array.append_assoc]⟩
theorem Un.start {fs ex : List Addr} (n : Nat) (h : Heap) : Un fs ex H H (cutH n h) h where
  keep := fun b o e _ _ _ => (cutH_lt e).2
  slot := fun b o e _ _ _ => ⟨o.slots, (cutH_lt e).2⟩
  free := fun b o e n _ => n
  there := fun b o e _ => ⟨o, (cutH_lt e).2⟩
  tups := fun b xs e => e
  frzs := fun b o u e => e
  tbls := fun b ps e => ⟨#[], by rw [Array.append_empty]; exact e⟩
theorem funs_cut (I : Inv X pins σ H s) : (cutH X.s_0.heap.objs.size s.heap).FunFrames X.base X.outer := by
  have all : ∀ (l : List Env), (∀ b ∈ frs l, b ∈ X.fs) → X.s_0.heap.FunFrames X.base l → (cutH X.s_0.heap.objs.size s.heap).FunFrames X.base l := by
    intro l
    induction l with
    | nil => intro _ _; trivial
    | cons env r ih =>
      intro hs hl
      obtain ⟨hk, ⟨L, o, hf, hn, ho, hd⟩, hr⟩ := hl
      have hL : L ∈ X.fs := hs L (by unfold frs; rw [List.filterMap_cons, hf]; exact List.mem_cons_self)
      obtain ⟨sl, e⟩ := I.base.slot L o ho (I.ok.frf L hL) hL fun z => I.ok.exfs L z hL
      exact ⟨hk, ⟨L, _, hf, hn, (cutH_at (Heap.lt_size ho)).trans e, hd⟩, ih (fun b hb => hs b (by unfold frs; rw [List.filterMap_cons, hf]; exact List.mem_cons_of_mem _ hb)) hr⟩
  exact all X.outer (fun b hb => hb) I.ok.funs
theorem cut_size (n : Nat) (h : Heap) : (cutH n h).objs.size = min n h.objs.size := by
  show (h.objs.extract 0 n).size = _
  rw [Array.size_extract, Nat.sub_zero]
/-- into the context of the loop's start -/
theorem inv_reb (I : Inv X pins σ H s) : Inv (reb X s H) pins σ H s := by
  have k := I.ok
  have sz : (cutH X.s_0.heap.objs.size s.heap).objs.size ≤ X.s_0.heap.objs.size := by rw [cut_size]; exact Nat.min_le_left _ _
  refine ⟨⟨k.mod, k.kind, k.glob, k.blt, Nat.le_trans sz k.above, k.inj, k.has, fun x c h1 h2 => Nat.le_trans sz (k.cab x c h1 h2), k.hd, k.frames, k.stk, k.exf, fun b o e => ⟨?_, (I.bs b o e).2⟩, ?_, k.noex, k.exfs, funs_cut I, fun b hb => ?_⟩,
    I.os, I.bare, Un.start _ _, I.loc, I.cell, I.free, I.freeC, I.pin, I.hok, I.len⟩
  · rw [cutH_at (Heap.lt_size (k.bs b o e).1)]
    exact (I.bs b o e).1
  · rw [cut_size]
    exact Nat.le_min.mpr ⟨k.bsz, I.env0.bsz⟩
  · obtain ⟨_, o, ho, _⟩ := Heap.FunFrames.mem k.funs hb
    exact I.base.free b o ho (k.frf b hb) fun z => k.exfs b z hb
/-- and back -/
theorem inv_back {pins' : List (Addr × Obj)} (I : Inv X pins σ H s) (J : Inv (reb X s H) pins' σ' H' s') : Inv X pins' σ' H' s' :=
  ⟨I.ok, J.os, J.bare, Un.back I.base J.base, J.loc, J.cell, J.free, J.freeC, J.pin, J.hok, J.len⟩
end
end Ami

set_option Elab.async false
set_option linter.all false
set_option maxRecDepth 100000
set_option maxHeartbeats 4000000
/-! a for-loop over a generator of one's own -/
namespace Ami
open PySem PySem.Spec PyProof.Rows L2 GenW
/-- the loop's context: no exception leaves it -/
abbrev noX (X : Cx) : Cx := { X with xe := fun _ _ => False }
def tForQ (tq : L2.St → Hp → (List V → Prop) → Prop) (g : TG) (tb : TS) : TS := fun D σ H => tq σ H fun xs => ∃ W : Nat → Nat → L2.St → Hp → Prop, (∃ m, W 0 m σ H) ∧
  ∀ i m σ' H', W i m σ' H' → (xs.length ≤ i ∧ D.nx σ' H') ∨ (i < xs.length ∧ ∃ N : L2.St → Hp → Prop, (∀ σ2 H2, N σ2 H2 → ∃ m', m' < m ∧ W (i + 1) m' σ2 H2) ∧
    ∀ x, xs[i]? = some x → g x σ' H' fun σ2 H2 => tb { D with nx := N, ct := N, bk := D.nx } σ2 H2)
section
variable {X : Cx} {pins : List (Addr × Obj)} {σ : L2.St} {H : Hp} {s : Shared}
theorem inv_noX (I : Inv X pins σ H s) : Inv (noX X) pins σ H s := by
  obtain ⟨⟨a1, a2, a3, a4, a5, a6, a7, a8, a9, a10, a11, a12, a13, a14, a15, a16, a17, a18⟩, b1, b2, b3, b4, b5, b6, b7, b8, b9, b10⟩ := I
  exact ⟨⟨a1, a2, a3, a4, a5, a6, a7, a8, a9, a10, a11, a12, a13, a14, a15, a16, a17, a18⟩, b1, b2, b3, b4, b5, b6, b7, b8, b9, b10⟩
theorem inv_unX (I : Inv (noX X) pins σ H s) : Inv X pins σ H s := by
  obtain ⟨⟨a1, a2, a3, a4, a5, a6, a7, a8, a9, a10, a11, a12, a13, a14, a15, a16, a17, a18⟩, b1, b2, b3, b4, b5, b6, b7, b8, b9, b10⟩ := I
  exact ⟨⟨a1, a2, a3, a4, a5, a6, a7, a8, a9, a10, a11, a12, a13, a14, a15, a16, a17, a18⟩, b1, b2, b3, b4, b5, b6, b7, b8, b9, b10⟩
theorem funs_below {base : Heap} {n : Nat} {h : Heap} : ∀ {l : List Env}, h.FunFrames base l → (∀ b ∈ frs l, b < n) → (cutH n h).FunFrames base l
  | [], _, _ => trivial
  | env :: r, ⟨hk, ⟨L, o, hf, hn, ho, hd⟩, hr⟩, hb => by
    have hL : L ∈ frs (env :: r) := by unfold frs; rw [List.filterMap_cons, hf]; exact List.mem_cons_self
    exact ⟨hk, ⟨L, o, hf, hn, (cutH_at (hb L hL)).trans ho, hd⟩, funs_below hr fun b hb' => hb b (by unfold frs; rw [List.filterMap_cons, hf]; exact List.mem_cons_of_mem _ hb')⟩
/-- the generator's frame over the state that stands now -/
theorem now_ok {Xg : Cx} {A : Around} {xs : List V} {σs : Nat → L2.St} {a L : Addr} {n : Nat} (O : GenOk Xg A xs σs a L) (I : Inv X pins σ H s) (e3 : Xg.base = X.base) (e4 : Xg.outer = X.stack) (hn : n ≤ L) (hb : X.base.objs.size ≤ n) (hf : ∀ b ∈ frs X.stack, b < n) :
    GenOk (atS Xg { s with heap := cutH n s.heap } H) A xs σs a L := by
  have k := O.ok
  have B := O.bare
  have sz : (cutH n s.heap).objs.size ≤ n := by rw [cut_size]; exact Nat.min_le_left _ _
  have low : ∀ b o, X.base.get? b = some o → b < n := fun b o e => Nat.lt_of_lt_of_le (Heap.lt_size e) hb
  refine ⟨⟨k.mod, k.kind, k.glob, k.blt, Nat.le_trans sz (Nat.le_trans hn (Nat.le_of_eq O.loc.symm)), k.inj, k.has, fun x c _ h2 => ?_, k.hd, k.frames, k.stk, k.exf, fun b o e => ?_, ?_, k.noex, k.exfs, ?_, ?_⟩, ⟨B.cells, B.pn, B.ex⟩, O.loc, O.len, O.hd, O.dp, O.ne, O.nf⟩
  · have h2 : Xg.env.cells.lookup x = some c := h2
    rw [B.cells] at h2; cases h2
  · have e : Xg.base.get? b = some o := e
    rw [e3] at e
    exact ⟨(cutH_at (low b o e)).trans (I.bs b o e).1, (I.bs b o e).2⟩
  · show Xg.base.objs.size ≤ (cutH n s.heap).objs.size
    rw [e3, cut_size]
    exact Nat.le_min.mpr ⟨hb, I.env0.bsz⟩
  · show (cutH n s.heap).FunFrames Xg.base Xg.outer
    rw [e3, e4]
    exact funs_below I.stack hf
  · show ∀ b ∈ frs Xg.outer, H b = none
    rw [e4]
    exact I.env0.frf
theorem now_inv {Xg : Cx} {A : Around} {xs : List V} {σs : Nat → L2.St} {a L : Addr} {g k n : Nat} (O : GenOk Xg A xs σs a L) (G : GenAt Xg A xs σs a g k s) (I : Inv X pins σ H s) (e1 : Xg.prog = X.prog) (e2 : Xg.w = X.w) (e3 : Xg.base = X.base) (e4 : Xg.outer = X.stack) (hn : n ≤ L) (hb : X.base.objs.size ≤ n) (hf : ∀ b ∈ frs X.stack, b < n) (hk : k ≤ xs.length) (hL : H L = none) :
    Inv (atS Xg { s with heap := cutH n s.heap } H) [] (σs k) H s := by
  refine (G.at { s with heap := cutH n s.heap } H).inv (now_ok O I e3 e4 hn hb hf) hk rfl I.bare (Un.start _ _) hL ?_
  show HOk Xg.prog Xg.w H s.heap
  rw [e1, e2]
  exact I.hok
/-- the generator hands out its next item, whatever the frames about it hold -/
theorem next_item {Xg : Cx} {A : Around} {xs : List V} {σs : Nat → L2.St} {a L : Addr} {g k n : Nat} {E : Value → Shared → Prop} {Q : Option Value → Shared → Prop} {x : V} (O : GenOk Xg A.in1 xs σs a L) (G : GenAt Xg A.in1 xs σs a g k s) (I : Inv X pins σ H s) (e1 : Xg.prog = X.prog) (e2 : Xg.w = X.w) (e3 : Xg.base = X.base) (e4 : Xg.outer = X.stack) (hn : n ≤ L) (hb : X.base.objs.size ≤ n) (hf : ∀ b ∈ frs X.stack, b < n)
    (hL : FpOk X pins H L) (ha : H a = none) (hx : xs[k]? = some x)
    (hQ : ∀ v s', RelV x v → GenAt Xg A.in1 xs σs a g (k + 1) s' → Inv X pins σ H s' → Q (some v) s') : wpAny (model X.prog X.w) A (pyNext (.ref a)) Q E s := by
  have hk : k ≤ xs.length := Nat.le_of_lt (List.getElem?_eq_some_iff.mp hx).1
  have J := now_inv O G I e1 e2 e3 e4 hn hb hf hk hL.1
  have em : model Xg.prog Xg.w = model X.prog X.w := by rw [e1, e2]
  have efs : (atS Xg { s with heap := cutH n s.heap } H).fs = frs X.stack := by show frs Xg.outer = _; rw [e4]
  have main := pyNext_gen (X := atS Xg { s with heap := cutH n s.heap } H) (Q := Q) (E := E) (G.at { s with heap := cutH n s.heap } H) (now_ok O I e3 e4 hn hb hf) hx J ha fun v s' rv G' st _ _ => ?_
  · have main : wpAny (model Xg.prog Xg.w) A (pyNext (.ref a)) Q E s := main
    rw [em] at main
    exact main
  · refine hQ v s' rv G'.un ?_
    have u := st.un
    rw [efs] at u
    have hok : HOk Xg.prog Xg.w H s'.heap := st.hok
    rw [e1, e2] at hok
    exact I.call' (ch := [L]) st.os u hok st.bare fun b hb => by
      have e : b = L := by simpa using hb
      subst e
      obtain ⟨f0, f1, f2, f3, f4, f5⟩ := hL
      exact ⟨f3, f1, f4, f5⟩
theorem next_done {Xg : Cx} {A : Around} {xs : List V} {σs : Nat → L2.St} {a L : Addr} {g k n : Nat} {E : Value → Shared → Prop} {Q : Option Value → Shared → Prop} (O : GenOk Xg A.in1 xs σs a L) (G : GenAt Xg A.in1 xs σs a g k s) (I : Inv X pins σ H s) (e1 : Xg.prog = X.prog) (e2 : Xg.w = X.w) (e3 : Xg.base = X.base) (e4 : Xg.outer = X.stack) (hn : n ≤ L) (hb : X.base.objs.size ≤ n) (hf : ∀ b ∈ frs X.stack, b < n)
    (hL : FpOk X pins H L) (hk : k = xs.length) (hQ : ∀ s', Inv X pins σ H s' → Q none s') : wpAny (model X.prog X.w) A (pyNext (.ref a)) Q E s := by
  have J := now_inv O G I e1 e2 e3 e4 hn hb hf (Nat.le_of_eq hk) hL.1
  have em : model Xg.prog Xg.w = model X.prog X.w := by rw [e1, e2]
  have efs : (atS Xg { s with heap := cutH n s.heap } H).fs = frs X.stack := by show frs Xg.outer = _; rw [e4]
  have main := pyNext_done (X := atS Xg { s with heap := cutH n s.heap } H) (Q := Q) (E := E) (G.at { s with heap := cutH n s.heap } H) (now_ok O I e3 e4 hn hb hf) hk J fun s' st => ?_
  · have main : wpAny (model Xg.prog Xg.w) A (pyNext (.ref a)) Q E s := main
    rw [em] at main
    exact main
  · refine hQ s' ?_
    have u := st.un
    rw [efs] at u
    have hok : HOk Xg.prog Xg.w H s'.heap := st.hok
    rw [e1, e2] at hok
    exact I.call' (ch := [L]) st.os u hok st.bare fun b hb => by
      have e : b = L := by simpa using hb
      subst e
      obtain ⟨f0, f1, f2, f3, f4, f5⟩ := hL
      exact ⟨f3, f1, f4, f5⟩
end
theorem GenAt.objs {X : Cx} {A : Around} {xs : List V} {σs : Nat → L2.St} {a : Addr} {g k : Nat} {s : Shared} (G : GenAt X A xs σs a g k s) : ∀ b ∈ [a, X.env.locals], ∃ o, s.heap.get? b = some o ∧ ∀ v, o.data ≠ .cell v := fun b hb => by
  rcases List.mem_cons.mp hb with rfl | hb
  · obtain ⟨o, nm, qn, ho, _, hd, _⟩ := G.gen
    exact ⟨o, ho, fun v z => by rw [hd] at z; cases z⟩
  · have e : b = X.env.locals := by simpa using hb
    subst e
    obtain ⟨m, ⟨o, es, ep, ho, hd, _⟩, _⟩ := G.frm
    exact ⟨o, ho, fun v z => by rw [hd] at z; cases z⟩
/-- for x in f(..): body, f a generator def -/
theorem ps_forQ {X : Cx} {k : Nat} {iter : Expr} {body : List Stmt} {tq : L2.St → Hp → (List V → Prop) → Prop} {tg : Expr} {g : TG} {tb : TS} {pos : Pos} (hp : PassesOwn (model X.prog X.w) X.A X.env X.xe) (hr : Room (k + 2) X.A) (hi : PQ X k iter tq) (hg : PG (noX X) tg g) (hb : PSs (noX X) body tb)
    (hs : ∀ x, foldedSetIterable iter X.env x = pure x := by intro _; rfl) : PS X (.For tg iter body [] pos) (tForQ tq g tb) := by
  refine ⟨fun pins s σ H D I h => ?_⟩
  refine wpAny_For (thn (hi.run pins s σ H _ I h) fun v s1 ⟨xs, tk, hW, b1⟩ => ?_) hs
  obtain ⟨a, L, gn, Xf, σs, rfl, p1, p2, p3, p4, p5, o1, bare1, kp1, kg1, eg1, hbase, born⟩ := b1
  have kp1 : ∀ b o, s.heap.get? b = some o → s1.heap.get? b = some o := kp1
  have hA : Room (k + 1) X.A.in1 := hr.in1
  obtain ⟨P1, W1, fs1, s01, h01, O, G⟩ := born X.A.in1 X.A s hA I.ok.frames (env1 I.env0) (Nat.le_refl _) rfl Un.refl
  obtain ⟨B1, B2, _⟩ := hbase X.A.in1 s
  generalize Xf X.A.in1 s = Xg at P1 W1 fs1 s01 h01 O G B1 B2
  refine wpAny_pyIter_gen G.gen ?_
  have I1 : Inv X pins σ H s1 := I.call' (s' := s1) (ch := []) o1 (Un.kept kp1) (I.hok.kept kp1) bare1 fun b hb => absurd hb (by simp)
  have fL : ∀ {H' : Hp}, H' L = none → FpOk X pins H' L := fun n => I.fpOk p1 n
  have fa : ∀ {H' : Hp}, H' a = none → FpOk X pins H' a := fun n => I.fpOk p3 n
  have hfr : ∀ b ∈ frs X.stack, b < s.heap.objs.size := fun b hb => by
    obtain ⟨_, o, ho, _⟩ := I.stack.mem hb
    exact Heap.lt_size ho
  have hbs : X.base.objs.size ≤ s.heap.objs.size := I.env0.bsz
  obtain ⟨W, ⟨m0, w0⟩, turn⟩ := hW
  refine codeAny_forLoop_any (fun n s' => ∃ i σ' H', Inv X pins σ' H' s' ∧ i ≤ xs.length ∧ H' a = none ∧ H' L = none ∧ GenAt Xg X.A.in1 xs σs a gn i s' ∧ W i n σ' H') ?_ m0 ⟨0, σ, H, I1, Nat.zero_le _, I.hok.fresh p3, I.hok.fresh p1, G, w0⟩
  rintro n s3 ⟨i, σ3, H3, I3, hi3, na3, nL3, G3, w3⟩
  rcases turn i n σ3 H3 w3 with ⟨stop, qn⟩ | ⟨go, N, hN, step⟩
  · refine wpAny_passesOwn hp (next_done O G3 I3 P1 W1 B1 B2 p1 hbs hfr (fL nL3) (by omega) fun s4 I4 => ?_)
    exact wpAny_execs_nil ⟨σ3, H3, I4, qn⟩
  · have hx : xs[i]? = some xs[i] := List.getElem?_eq_getElem go
    refine wpAny_passesOwn hp (next_item O G3 I3 P1 W1 B1 B2 p1 hbs hfr (fL nL3) na3 hx fun u s4 r4 G4 I4 => ?_)
    obtain ⟨og, nm, qn', hog, hcg, hdg, _⟩ := id G4.gen
    refine wpAny_passesOwn hp (go_of hog hcg hdg (by decide) ?_)
    have eL : Xg.env.locals = L := O.loc
    have both : ∀ {H' : Hp}, H' a = none → H' L = none → ∀ b ∈ [a, L], FpOk X pins H' b := fun h1 h2 b hb => by
      rcases List.mem_cons.mp hb with rfl | hb
      · exact fa h1
      · have e : b = L := by simpa using hb
        subst e
        exact fL h2
    have obj4 : ∀ b ∈ [a, L], ∃ o, s4.heap.get? b = some o ∧ ∀ v, o.data ≠ .cell v := by
      have := G4.objs
      rw [eL] at this
      exact this
    have I4' := inv_noX (I4.pinned (both na3 nL3) obj4)
    have I4n := Inv.gens (s' := numbed s4) I4' rfl rfl (numbed_bare I4.bare)
    refine wpAny_passesOwn hp (wpAny_mono (wpAny_asleep (hg.run _ (numbed s4) σ3 H3 _ u _ I4n r4 (step _ hx))) (fun _ s5 ⟨z5, aw5, σ5, H5, I5z, q5⟩ => ?_) fun _ _ z => z.elim fun _ z => z.2.elim)
    have I5 := Inv.gens (s' := s5) I5z aw5.heap aw5.os (aw5.bare I4.bare I5z.bare)
    have I5n := Inv.gens (s' := numbed s5) I5 rfl rfl (numbed_bare I5.bare)
    refine wpAny_passesOwn hp (wpAny_mono (wpAny_asleep (hb.run _ (numbed s5) σ5 H5 _ I5n q5)) (fun f s6 ⟨z6, aw6, q6⟩ => ?_) fun _ _ z => z.elim fun _ z => z.2.elim)
    have k6 : KeepsAsleep s4 s6 := aw5.keep.trans aw6.keep
    have back : ∀ {σ' : L2.St} {H' : Hp}, Inv (noX X) (pins ++ pinsAt [a, L] s4.heap) σ' H' z6 → Inv X (pins ++ pinsAt [a, L] s4.heap) σ' H' s6 := fun {σ' H'} I' =>
      inv_unX (Inv.gens (s' := s6) I' aw6.heap aw6.os (aw6.bare I5.bare I'.bare))
    have again : ∀ {σ7 : L2.St} {H7 : Hp}, Inv X (pins ++ pinsAt [a, L] s4.heap) σ7 H7 s6 → N σ7 H7 → ∃ m, m < n ∧ ∃ i σ' H', Inv X pins σ' H' s6 ∧ i ≤ xs.length ∧ H' a = none ∧ H' L = none ∧ GenAt Xg X.A.in1 xs σs a gn i s6 ∧ W i m σ' H' := fun {σ7 H7} I7 n7 => by
      obtain ⟨m', hm, w7⟩ := hN σ7 H7 n7
      have pin' : ∀ b ∈ [a, L], ∀ o, s4.heap.get? b = some o → s6.heap.get? b = some o ∧ H7 b = none := fun b hb o e =>
        let z := I7.pin (b, o) (List.mem_append_right _ (List.mem_append_right _ (mem_pinsAt hb e)))
        ⟨z.1, z.2.1⟩
      obtain ⟨oa, ea, _⟩ := obj4 a (by simp)
      obtain ⟨oL, eoL, _⟩ := obj4 L (by simp)
      refine ⟨m', hm, i + 1, σ7, H7, I7.unpinned, go, (pin' a (by simp) oa ea).2, (pin' L (by simp) oL eoL).2, G4.keep (fun o e => ?_) (fun o e => (pin' a (by simp) o e).1) fun gs e sl => k6 gn gs e (sl (Nat.succ_pos _)), w7⟩
      rw [eL] at e ⊢
      exact (pin' L (by simp) o e).1
    cases f with
    | next => obtain ⟨σ7, H7, I7, n7⟩ := q6; exact again (back I7) n7
    | cont => obtain ⟨σ7, H7, I7, n7⟩ := q6; exact again (back I7) n7
    | brk => obtain ⟨σ7, H7, I7, q7⟩ := q6; exact ⟨σ7, H7, (back I7).unpinned, q7⟩
    | ret v => obtain ⟨x7, σ7, H7, I7, r7, q7⟩ := q6; exact ⟨x7, σ7, H7, (back I7).unpinned, r7, q7⟩
end Ami

set_option linter.all false
/-! books of words that are not seen at a wrong place: Scholtz's way. The marked words of one odd length are comma-free. -/
namespace Mk
abbrev Wd := List Nat
/-- joined: each part other than x with the x's ahead of it -/
def jn (x : Wd) : Wd → List Wd → List Wd
  | _, [] => []
  | a, p :: r => if p = x then jn x (a ++ p) r else (a ++ p) :: jn x [] r
/-- the last part is not x -/
def Ends (x : Wd) (P : List Wd) : Prop := ∃ Q p, P = Q ++ [p] ∧ p ≠ x
/-- what is left over behind the last part that is not x -/
def lo (x : Wd) : Wd → List Wd → Wd
  | a, [] => a
  | a, p :: r => if p = x then lo x (a ++ p) r else lo x [] r
theorem jn_x {x : Wd} (a : Wd) (r : List Wd) : jn x a (x :: r) = jn x (a ++ x) r := if_pos rfl
theorem jn_o {x p : Wd} (h : p ≠ x) (a : Wd) (r : List Wd) : jn x a (p :: r) = (a ++ p) :: jn x [] r := if_neg h
theorem lo_x {x : Wd} (a : Wd) (r : List Wd) : lo x a (x :: r) = lo x (a ++ x) r := if_pos rfl
theorem lo_o {x p : Wd} (h : p ≠ x) (a : Wd) (r : List Wd) : lo x a (p :: r) = lo x [] r := if_neg h
theorem jn_app (x : Wd) : ∀ (P Q : List Wd) (a : Wd), jn x a (P ++ Q) = jn x a P ++ jn x (lo x a P) Q
  | [], Q, a => rfl
  | p :: P, Q, a => by
    rw [List.cons_append]
    by_cases e : p = x
    · subst e; rw [jn_x, jn_x, lo_x]; exact jn_app p P Q _
    · rw [jn_o e, jn_o e, lo_o e, List.cons_append]; exact congrArg _ (jn_app x P Q [])
theorem lo_app (x : Wd) : ∀ (P Q : List Wd) (a : Wd), lo x a (P ++ Q) = lo x (lo x a P) Q
  | [], Q, a => rfl
  | p :: P, Q, a => by
    rw [List.cons_append]
    by_cases e : p = x
    · subst e; rw [lo_x, lo_x]; exact lo_app p P Q _
    · rw [lo_o e, lo_o e]; exact lo_app x P Q []
theorem jn_one {x p : Wd} (a : Wd) (h : p ≠ x) : jn x a [p] = [a ++ p] := by rw [jn_o h]; rfl
theorem lo_one {x p : Wd} (a : Wd) (h : p ≠ x) : lo x a [p] = [] := by rw [lo_o h]; rfl
theorem lo_ends {x : Wd} {P : List Wd} (h : Ends x P) (a : Wd) : lo x a P = [] := by
  obtain ⟨Q, p, rfl, hp⟩ := h
  rw [lo_app, lo_one _ hp]
theorem jn_flat (x : Wd) : ∀ (P : List Wd) (a : Wd), (jn x a P).flatten ++ lo x a P = a ++ P.flatten
  | [], a => by
    show [] ++ a = a ++ []
    rw [List.append_nil]; rfl
  | p :: P, a => by
    by_cases e : p = x
    · subst e; rw [jn_x, lo_x, jn_flat p P, List.flatten_cons, List.append_assoc]
    · rw [jn_o e, lo_o e, List.flatten_cons, List.append_assoc, jn_flat x P, List.nil_append, List.flatten_cons, List.append_assoc]
theorem jn_ends_flat {x : Wd} {P : List Wd} (h : Ends x P) (a : Wd) : (jn x a P).flatten = a ++ P.flatten := by
  have := jn_flat x P a
  rw [lo_ends h, List.append_nil] at this
  exact this
/-- no x in it: nothing is joined -/
theorem jn_none {x : Wd} : ∀ {P : List Wd}, (∀ p ∈ P, p ≠ x) → jn x [] P = P
  | [], _ => rfl
  | p :: P, h => by
    rw [jn_o (h p List.mem_cons_self), jn_none fun q hq => h q (List.mem_cons_of_mem _ hq)]; rfl
theorem lo_none {x : Wd} : ∀ {P : List Wd}, (∀ p ∈ P, p ≠ x) → lo x [] P = []
  | [], _ => rfl
  | p :: P, h => by
    rw [lo_o (h p List.mem_cons_self), lo_none fun q hq => h q (List.mem_cons_of_mem _ hq)]
theorem jn_len (x : Wd) : ∀ (P : List Wd) (a : Wd), (jn x a P).length = (P.filter fun p => decide (p ≠ x)).length
  | [], a => rfl
  | p :: P, a => by
    rw [List.filter_cons]
    by_cases e : p = x
    · subst e; rw [jn_x, if_neg (by simp), jn_len p P]
    · rw [jn_o e, if_pos (decide_eq_true e), List.length_cons, List.length_cons, jn_len x P]
theorem jn_le (x : Wd) (P : List Wd) (a : Wd) : (jn x a P).length ≤ P.length := by rw [jn_len]; exact List.length_filter_le _ _
theorem filt_lt {α : Type} {f : α → Bool} : ∀ {l : List α}, (∃ a ∈ l, f a = false) → (l.filter f).length < l.length
  | [], ⟨_, h, _⟩ => nomatch h
  | b :: l, ⟨a, h, e⟩ => by
    rw [List.filter_cons]
    by_cases hb : f b = true
    · rw [if_pos hb, List.length_cons, List.length_cons]
      rcases List.mem_cons.mp h with rfl | h
      · rw [e] at hb; exact nomatch hb
      · exact Nat.succ_lt_succ (filt_lt ⟨a, h, e⟩)
    · rw [if_neg hb, List.length_cons]
      exact Nat.lt_succ_of_le (List.length_filter_le _ _)
theorem jn_lt {x : Wd} {P : List Wd} (h : x ∈ P) (a : Wd) : (jn x a P).length < P.length := by
  rw [jn_len]
  exact filt_lt ⟨x, h, by simp⟩
/-- something is there behind an end that is not x: the first part -/
theorem jn_head {x : Wd} : ∀ {T : List Wd}, Ends x T → ∀ a, ∃ d R, jn x [] T = d :: R ∧ jn x a T = (a ++ d) :: R
  | [], ⟨Q, p, h, _⟩, a => by simp at h
  | t :: T, h, a => by
    by_cases e : t = x
    · obtain ⟨Q, p, hq, hp⟩ := h
      cases Q with
      | nil =>
        rw [List.nil_append] at hq
        injection hq with h1 h2
        exact absurd (h1.symm.trans e) hp
      | cons q Q =>
        rw [List.cons_append] at hq
        injection hq with h1 h2
        obtain ⟨d, R, e1, e2⟩ := jn_head (T := T) ⟨Q, p, h2, hp⟩ x
        obtain ⟨d', R', e3, e4⟩ := jn_head (T := T) ⟨Q, p, h2, hp⟩ (a ++ x)
        rw [e1] at e3
        injection e3 with f1 f2
        subst f1 f2
        refine ⟨x ++ d, R, ?_, ?_⟩
        · rw [e, jn_x, List.nil_append, e2]
        · rw [e, jn_x, e4, List.append_assoc]
    · refine ⟨t, jn x [] T, ?_, ?_⟩
      · rw [jn_o e, List.nil_append]
      · rw [jn_o e]
theorem jn_ne {x : Wd} {T : List Wd} (h : Ends x T) (a : Wd) : jn x a T ≠ [] := by
  obtain ⟨d, R, _, e⟩ := jn_head h a
  rw [e]; simp
/-- the end of two rows -/
theorem ends_app {x : Wd} {A T : List Wd} (h : Ends x (A ++ T)) (hT : T ≠ []) : Ends x T := by
  obtain ⟨Q, p, e, hp⟩ := h
  obtain ⟨T', t, rfl⟩ : ∃ T' t, T = T' ++ [t] := ⟨T.dropLast, T.getLast hT, (List.dropLast_concat_getLast hT).symm⟩
  rw [← List.append_assoc] at e
  have := List.append_inj' e rfl
  exact ⟨T', t, rfl, by have z := this.2; injection z with z _; rw [z]; exact hp⟩
theorem ends_of {x t : Wd} {T : List Wd} (h : t ≠ x) : Ends x (T ++ [t]) := ⟨T, t, rfl, h⟩
theorem ends_more {x : Wd} {A T : List Wd} (h : Ends x T) : Ends x (A ++ T) := by
  obtain ⟨Q, p, rfl, hp⟩ := h
  exact ⟨A ++ Q, p, (List.append_assoc _ _ _).symm, hp⟩
theorem ends_none {x : Wd} {P : List Wd} (h : ∀ p ∈ P, p ≠ x) (hP : P ≠ []) : Ends x P := by
  obtain ⟨T', t, rfl⟩ : ∃ T' t, P = T' ++ [t] := ⟨P.dropLast, P.getLast hP, (List.dropLast_concat_getLast hP).symm⟩
  exact ends_of (h t (by simp))
/-! ### the order of parts -/
def small (a b : Wd) : Prop := a.length < b.length ∨ (a.length = b.length ∧ a < b)
theorem small_tri {a b : Wd} (h1 : ¬ small a b) (h2 : ¬ small b a) : a = b := by
  unfold small at h1 h2
  have hl : a.length = b.length := by omega
  have a1 : ¬ a < b := fun z => h1 (.inr ⟨hl, z⟩)
  have a2 : ¬ b < a := fun z => h2 (.inr ⟨hl.symm, z⟩)
  exact List.le_antisymm (List.not_lt.mp a2) (List.not_lt.mp a1)
theorem small_le {a b : Wd} (h : ¬ small b a) : a.length ≤ b.length := by
  unfold small at h
  omega
def Odd (p : Wd) : Prop := p.length % 2 = 1
/-- x is odd and no odd part is less -/
structure Low (x : Wd) (P : List Wd) : Prop where
  odd : Odd x
  low : ∀ y ∈ P, Odd y → ¬ small y x
structure IsMin (x : Wd) (P : List Wd) : Prop where
  mem : x ∈ P
  low : Low x P
/-- a row of parts becomes the word u, joined by its least odd part again and again -/
inductive Mkd : List Wd → Wd → Prop
  | one (u : Wd) : Mkd [u] u
  | step (x : Wd) (P : List Wd) (u : Wd) : 2 ≤ P.length → IsMin x P → Ends x P → Mkd (jn x [] P) u → Mkd P u
theorem Mkd.ne {P : List Wd} {u : Wd} (h : Mkd P u) : P ≠ [] := by
  cases h with
  | one => simp
  | step x _ _ h2 _ _ _ => intro z; rw [z] at h2; simp at h2
theorem Mkd.flat {P : List Wd} {u : Wd} (h : Mkd P u) : P.flatten = u := by
  induction h with
  | one u => simp
  | step x P u _ _ he _ ih =>
    have := jn_ends_flat he []
    rw [ih, List.nil_append] at this
    exact this.symm
/-- one step by a part that is least among more -/
theorem Mkd.by {P : List Wd} {u x : Wd} (h : Mkd P u) (lx : Low x P) (hx : P = [u] → x ≠ u) : Ends x P ∧ Mkd (jn x [] P) u ∧ (x ∈ P → (jn x [] P).length < P.length) := by
  by_cases hm : x ∈ P
  · cases h with
    | one =>
      have : x = u := by simpa using hm
      exact absurd this (hx rfl)
    | step x' _ _ h2 hmin he hk =>
      have e : x' = x := small_tri (fun z => lx.low x' hmin.mem hmin.low.odd z) (fun z => hmin.low.low x hm lx.odd z)
      subst e
      exact ⟨he, hk, fun _ => jn_lt hm []⟩
  · have hn : ∀ p ∈ P, p ≠ x := fun p hp z => hm (z ▸ hp)
    rw [jn_none hn]
    exact ⟨ends_none hn h.ne, h, fun z => absurd z hm⟩
end Mk

set_option linter.all false
/-! an end of one marked word that is a beginning of another has odd length -/
namespace Mk
theorem jn_low {x : Wd} {m : Nat} : ∀ {P : List Wd} {a : Wd}, (∀ p ∈ P, Odd p → m ≤ p.length) → (Odd a → m ≤ a.length) → ∀ d ∈ jn x a P, Odd d → m ≤ d.length
  | [], a, _, _, d, h, _ => nomatch h
  | p :: P, a, hP, ha, d, h, ho => by
    have hp := hP p List.mem_cons_self
    have hap : Odd (a ++ p) → m ≤ (a ++ p).length := fun o => by
      unfold Odd at o ha hp
      rw [List.length_append] at o ⊢
      by_cases e : a.length % 2 = 1
      · have := ha e; omega
      · have := hp (by omega); omega
    have hr : ∀ q ∈ P, Odd q → m ≤ q.length := fun q hq => hP q (List.mem_cons_of_mem _ hq)
    by_cases e : p = x
    · subst e
      rw [jn_x] at h
      exact jn_low hr hap d h ho
    · rw [jn_o e] at h
      rcases List.mem_cons.mp h with rfl | h
      · exact hap ho
      · exact jn_low hr (fun o => absurd o (by unfold Odd; decide)) d h ho
theorem lo_big {x : Wd} : ∀ (A : List Wd) (a : Wd), (a = [] ∨ x.length ≤ a.length) → lo x a A = [] ∨ x.length ≤ (lo x a A).length
  | [], a, h => h
  | p :: A, a, h => by
    by_cases e : p = x
    · subst e
      rw [lo_x]
      exact lo_big A _ (.inr (by rw [List.length_append]; omega))
    · rw [lo_o e]
      exact lo_big A [] (.inl rfl)
theorem jn_nonempty {x : Wd} : ∀ {P : List Wd} {a : Wd}, (∀ p ∈ P, p ≠ []) → ∀ d ∈ jn x a P, d ≠ []
  | [], a, _, d, h => nomatch h
  | p :: P, a, hP, d, h => by
    by_cases e : p = x
    · subst e
      rw [jn_x] at h
      exact jn_nonempty (fun q hq => hP q (List.mem_cons_of_mem _ hq)) d h
    · rw [jn_o e] at h
      rcases List.mem_cons.mp h with rfl | h
      · exact fun z => hP p List.mem_cons_self (List.append_eq_nil_iff.mp z).2
      · exact jn_nonempty (fun q hq => hP q (List.mem_cons_of_mem _ hq)) d h
theorem min_of : ∀ {P : List Wd}, (∃ p ∈ P, Odd p) → ∃ x, IsMin x P
  | [], ⟨_, h, _⟩ => nomatch h
  | p :: P, hex => by
    by_cases hP : ∃ q ∈ P, Odd q
    · obtain ⟨x, hx⟩ := min_of hP
      by_cases hp : Odd p ∧ small p x
      · refine ⟨p, List.mem_cons_self, hp.1, fun y hy oy hs => ?_⟩
        rcases List.mem_cons.mp hy with rfl | hy
        · rcases hs with h | ⟨_, h⟩
          · omega
          · exact absurd h (List.lt_irrefl _)
        · refine hx.low.low y hy oy ?_
          have h2 := hp.2
          unfold small at hs h2 ⊢
          rcases hs with h | ⟨h, l⟩
          · rcases h2 with h' | ⟨h', _⟩
            · left; omega
            · left; omega
          · rcases h2 with h' | ⟨h', l'⟩
            · left; omega
            · right; exact ⟨by omega, List.lt_trans l l'⟩
      · refine ⟨x, List.mem_cons_of_mem _ hx.mem, hx.low.odd, fun y hy oy hs => ?_⟩
        rcases List.mem_cons.mp hy with rfl | hy
        · exact hp ⟨oy, hs⟩
        · exact hx.low.low y hy oy hs
    · obtain ⟨q, hq, oq⟩ := hex
      rcases List.mem_cons.mp hq with rfl | hq
      · refine ⟨q, List.mem_cons_self, oq, fun y hy oy hs => ?_⟩
        rcases List.mem_cons.mp hy with rfl | hy
        · rcases hs with h | ⟨_, h⟩
          · omega
          · exact absurd h (List.lt_irrefl _)
        · exact absurd ⟨y, hy, oy⟩ hP
      · exact absurd ⟨q, hq, oq⟩ hP
theorem odd_in : ∀ {P : List Wd}, Odd P.flatten → ∃ p ∈ P, Odd p
  | [], h => by unfold Odd at h; simp at h
  | p :: P, h => by
    unfold Odd at h
    rw [List.flatten_cons, List.length_append] at h
    by_cases e : p.length % 2 = 1
    · exact ⟨p, List.mem_cons_self, e⟩
    · obtain ⟨q, hq, oq⟩ := odd_in (P := P) (by unfold Odd; omega)
      exact ⟨q, List.mem_cons_of_mem _ hq, oq⟩
theorem part_lt : ∀ {P : List Wd} {p : Wd}, (∀ q ∈ P, q ≠ []) → p ∈ P → 2 ≤ P.length → p.length < P.flatten.length
  | [], _, _, h, _ => nomatch h
  | [a], _, _, _, h => by simp at h
  | a :: b :: P, p, hn, h, _ => by
    have ha : 0 < a.length := List.length_pos_iff.mpr (hn a List.mem_cons_self)
    have hb : 0 < b.length := List.length_pos_iff.mpr (hn b (by simp))
    have all : ∀ {P : List Wd} {p : Wd}, p ∈ P → p.length ≤ P.flatten.length := fun {P} {p} h => by
      induction P with
      | nil => exact nomatch h
      | cons c P ih =>
        rw [List.flatten_cons, List.length_append]
        rcases List.mem_cons.mp h with rfl | h
        · omega
        · have := ih h; omega
    rw [List.flatten_cons, List.length_append]
    rcases List.mem_cons.mp h with rfl | h
    · rw [List.flatten_cons, List.length_append]; omega
    · have := all h; omega
/-- the end z of Pu, the beginning z of Pv, cut at the same places all along -/
def Ph1 (Pu Pv : List Wd) (z : Wd) : Prop := ∃ A T R, Pu = A ++ T ∧ Pv = T ++ R ∧ A ≠ [] ∧ T ≠ [] ∧ R ≠ [] ∧ T.flatten = z
/-- cut at the same places behind the parts q, p -/
def Ph2 (Pu Pv : List Wd) (z : Wd) : Prop := ∃ A q C p T R, Pu = A ++ q :: T ∧ Pv = C ++ p :: (T ++ R) ∧ R ≠ [] ∧ (∀ c ∈ C, c.length % 2 = 0) ∧ C.flatten ++ p ++ T.flatten = z ∧
  (p.length ≤ q.length ∨ ∃ m, m % 2 = 1 ∧ p.length = q.length + m ∧ (∀ d ∈ Pu, Odd d → m ≤ d.length) ∧ (∀ d ∈ Pv, Odd d → m ≤ d.length))
theorem even_flat : ∀ {C : List Wd}, (∀ c ∈ C, c.length % 2 = 0) → C.flatten.length % 2 = 0
  | [], _ => rfl
  | c :: C, h => by
    rw [List.flatten_cons, List.length_append]
    have h1 := h c List.mem_cons_self
    have h2 := even_flat fun d hd => h d (List.mem_cons_of_mem _ hd)
    omega
theorem step1 {Pu Pv : List Wd} {z x : Wd} (h : Ph1 Pu Pv z) (nu : ∀ p ∈ Pu, p ≠ []) (eu : Ends x Pu) (ev : Ends x Pv) : Ph1 (jn x [] Pu) (jn x [] Pv) z ∨ Ph2 (jn x [] Pu) (jn x [] Pv) z := by
  obtain ⟨A, T, R, rfl, rfl, hA, hT, hR, rfl⟩ := h
  have eT : Ends x T := ends_app eu hT
  have eR : Ends x R := ends_app ev hR
  have fT := jn_ends_flat eT []
  rw [jn_app, jn_app, lo_ends eT]
  rcases Classical.em (lo x [] A = []) with hl | hl
  · left
    refine ⟨jn x [] A, jn x [] T, jn x [] R, by rw [hl], rfl, fun q => ?_, jn_ne eT [], jn_ne eR [], fT⟩
    have := jn_flat x A []
    rw [q, hl] at this
    have hf : A.flatten = [] := this.symm
    obtain ⟨a, A', rfl⟩ : ∃ a A', A = a :: A' := by cases A with
      | nil => exact absurd rfl hA
      | cons a A' => exact ⟨a, A', rfl⟩
    rw [List.flatten_cons] at hf
    exact nu a (by simp) (List.append_eq_nil_iff.mp hf).1
  · right
    obtain ⟨d, S, e1, e2⟩ := jn_head eT (lo x [] A)
    rw [e1, List.flatten_cons] at fT
    refine ⟨jn x [] A, lo x [] A ++ d, [], d, S, jn x [] R, by rw [e2], by rw [e1]; rfl, jn_ne eR [], (fun c hc => nomatch hc), fT, .inl ?_⟩
    rw [List.length_append]; omega
theorem step2 {Pu Pv : List Wd} {y z x : Wd} (h : Ph2 Pu Pv z) (hy : Pu.flatten = y ++ z) (lu : Low x Pu) (lv : Low x Pv) (hx : x ∈ Pu ∨ x ∈ Pv) (eu : Ends x Pu) (ev : Ends x Pv) : Ph2 (jn x [] Pu) (jn x [] Pv) z ∨ Odd z := by
  obtain ⟨A, q, C, p, T, R, rfl, rfl, hR, hC, hz, hrel⟩ := h
  have ox : x.length % 2 = 1 := lu.odd
  have nC : ∀ c ∈ C, c ≠ x := fun c hc e => by
    have := hC c hc
    rw [e] at this
    omega
  have lowU : ∀ d ∈ jn x [] (A ++ q :: T), Odd d → x.length ≤ d.length := jn_low (fun d hd o => small_le (lu.low d hd o)) fun o => absurd o (by unfold Odd; decide)
  have lowV : ∀ d ∈ jn x [] (C ++ p :: (T ++ R)), Odd d → x.length ≤ d.length := jn_low (fun d hd o => small_le (lv.low d hd o)) fun o => absurd o (by unfold Odd; decide)
  have eR : Ends x R := by
    have : C ++ p :: (T ++ R) = (C ++ p :: T) ++ R := by simp
    rw [this] at ev
    exact ends_app ev hR
  have jU : jn x [] (A ++ q :: T) = jn x [] A ++ jn x (lo x [] A) (q :: T) := jn_app ..
  have jV : jn x [] (C ++ p :: (T ++ R)) = C ++ jn x [] (p :: (T ++ R)) := by rw [jn_app, jn_none nC, lo_none nC]
  have sufpq : A.flatten ++ q = y ++ (C.flatten ++ p) := by
    rw [← hz, List.flatten_append, List.flatten_cons] at hy
    have : (A.flatten ++ q) ++ T.flatten = (y ++ (C.flatten ++ p)) ++ T.flatten := by simpa only [List.append_assoc] using hy
    exact List.append_cancel_right this
  -- the relation where q takes what stands ahead of it
  have grow : ∀ {Pu' Pv' : List Wd}, Pu' = jn x [] (A ++ q :: T) → Pv' = jn x [] (C ++ p :: (T ++ R)) → (p.length ≤ (lo x [] A ++ q).length ∨ ∃ m, m % 2 = 1 ∧ p.length = (lo x [] A ++ q).length + m ∧ (∀ d ∈ Pu', Odd d → m ≤ d.length) ∧ (∀ d ∈ Pv', Odd d → m ≤ d.length)) := by
    intro Pu' Pv' e1 e2
    rw [List.length_append]
    rcases hrel with h | ⟨m, hm, hpq, mu, mv⟩
    · exact .inl (by omega)
    · have hmx : m ≤ x.length := by
        rcases hx with h | h
        · exact mu x h ox
        · exact mv x h ox
      rcases lo_big (x := x) A [] (.inl rfl) with h | h
      · rw [h]
        refine .inr ⟨m, hm, by rw [List.length_nil]; omega, ?_, ?_⟩
        · rw [e1]; exact jn_low mu fun o => absurd o (by unfold Odd; decide)
        · rw [e2]; exact jn_low mv fun o => absurd o (by unfold Odd; decide)
      · exact .inl (by omega)
  rcases Classical.em (T = []) with hT | hT
  · subst hT
    have hq : q ≠ x := by
      obtain ⟨Q, t, e, ht⟩ := eu
      have := List.append_inj' e rfl
      have z := this.2
      injection z with z _
      rw [z]; exact ht
    rcases Classical.em (p = x) with hp | hp
    · right
      subst hp
      rw [← hz]
      unfold Odd
      rw [List.length_append, List.length_append]
      have := even_flat hC
      show (C.flatten.length + p.length + 0) % 2 = 1
      omega
    · left
      refine ⟨jn x [] A, lo x [] A ++ q, C, p, [], jn x [] R, ?_, ?_, jn_ne eR [], hC, hz, grow rfl rfl⟩
      · rw [jU, jn_one _ hq]
      · rw [jV, jn_o hp]; rfl
  · have eT : Ends x T := by
      have : A ++ q :: T = (A ++ [q]) ++ T := by simp
      rw [this] at eu
      exact ends_app eu hT
    have fT := jn_ends_flat eT []
    rw [List.nil_append] at fT
    have tR : ∀ b, jn x b (T ++ R) = jn x b T ++ jn x [] R := fun b => by rw [jn_app, lo_ends eT]
    left
    rcases Classical.em (q = x) with hq | hq
    · subst hq
      obtain ⟨d, S, e1, e2⟩ := jn_head eT (lo q [] A ++ q)
      have jU2 : jn q [] (A ++ q :: T) = jn q [] A ++ (lo q [] A ++ q ++ d) :: S := by rw [jU, jn_x, e2]
      rcases Classical.em (p = q) with hp | hp
      · subst hp
        obtain ⟨d', S', e3, e4⟩ := jn_head eT p
        rw [e1] at e3
        injection e3 with f1 f2
        subst f1 f2
        refine ⟨jn p [] A, lo p [] A ++ p ++ d, C, p ++ d, S, jn p [] R, jU2, ?_, jn_ne eR [], hC, ?_, .inl ?_⟩
        · rw [jV, jn_x, tR, List.nil_append, e4]; rfl
        · rw [← hz, ← fT, e1, List.flatten_cons]; simp
        · simp only [List.length_append]; omega
      · have pe : p.length % 2 = 0 := by
          refine Classical.byContradiction fun o => ?_
          have po : Odd p := by unfold Odd; omega
          rcases hrel with h | ⟨m, hm, hpq, _, _⟩
          · have h2 := small_le (lv.low p (by simp) po)
            have hl : q.length = p.length := by omega
            exact hp (List.append_inj' (sufpq.trans (List.append_assoc ..).symm) hl).2.symm
          · omega
        refine ⟨jn q [] A, lo q [] A ++ q ++ d, C ++ [p], d, S, jn q [] R, jU2, ?_, jn_ne eR [], ?_, ?_, .inl ?_⟩
        · rw [jV, jn_o hp, tR, e1]; simp
        · intro c hc
          rcases List.mem_append.mp hc with hc | hc
          · exact hC c hc
          · rw [List.mem_singleton.mp hc]; exact pe
        · rw [← hz, ← fT, e1, List.flatten_cons]; simp
        · simp only [List.length_append]; omega
    · rcases Classical.em (p = x) with hp | hp
      · subst hp
        obtain ⟨d, S, e1, e2⟩ := jn_head eT p
        refine ⟨jn p [] A ++ [lo p [] A ++ q], d, C, p ++ d, S, jn p [] R, ?_, ?_, jn_ne eR [], hC, ?_, .inr ⟨p.length, ox, ?_, lowU, lowV⟩⟩
        · rw [jU, jn_o hq, e1]; simp
        · rw [jV, jn_x, tR, List.nil_append, e2]; rfl
        · rw [← hz, ← fT, e1, List.flatten_cons]; simp
        · rw [List.length_append]; omega
      · refine ⟨jn x [] A, lo x [] A ++ q, C, p, jn x [] T, jn x [] R, ?_, ?_, jn_ne eR [], hC, ?_, grow rfl rfl⟩
        · rw [jU, jn_o hq]
        · rw [jV, jn_o hp, tR]; rfl
        · rw [fT]; exact hz
theorem odd_of {u v y z : Wd} (hu : u = y ++ z) (ho : Odd u) (hl : u.length = v.length) : ∀ (N : Nat) (Pu Pv : List Wd), Pu.length + Pv.length ≤ N → Mkd Pu u → Mkd Pv v → (∀ p ∈ Pu, p ≠ []) → (∀ p ∈ Pv, p ≠ []) → Ph1 Pu Pv z ∨ Ph2 Pu Pv z → Odd z := by
  intro N
  induction N with
  | zero =>
    intro Pu Pv hN mu mv _ _ _
    have := List.length_pos_iff.mpr mu.ne
    omega
  | succ N ih =>
    intro Pu Pv hN mu mv nu nv hph
    have ov : Odd v := by unfold Odd at ho ⊢; omega
    have v2 : 2 ≤ Pv.length := by
      rcases hph with ⟨A, T, R, _, rfl, _, hT, hR, _⟩ | ⟨A, q, C, p, T, R, _, rfl, hR, _⟩
      · have a1 := List.length_pos_iff.mpr hT
        have a2 := List.length_pos_iff.mpr hR
        rw [List.length_append]; omega
      · have a2 := List.length_pos_iff.mpr hR
        rw [List.length_append, List.length_cons, List.length_append]; omega
    obtain ⟨x, hx⟩ := min_of (P := Pu ++ Pv) (by
      obtain ⟨p, hp, op⟩ := odd_in (P := Pv) (by rw [mv.flat]; exact ov)
      exact ⟨p, List.mem_append_right _ hp, op⟩)
    have lu : Low x Pu := ⟨hx.low.odd, fun d hd => hx.low.low d (List.mem_append_left _ hd)⟩
    have lv : Low x Pv := ⟨hx.low.odd, fun d hd => hx.low.low d (List.mem_append_right _ hd)⟩
    have hxu : x ≠ u := fun e => by
      obtain ⟨p, hp, op⟩ := odd_in (P := Pv) (by rw [mv.flat]; exact ov)
      have h1 := small_le (lv.low p hp op)
      have h2 := part_lt nv hp v2
      rw [mv.flat] at h2
      rw [e] at h1
      omega
    obtain ⟨eu, mu', du⟩ := mu.by lu fun _ => hxu
    obtain ⟨ev, mv', dv⟩ := mv.by lv fun e => by rw [e] at v2; simp at v2
    have hmem := List.mem_append.mp hx.mem
    have hN' : (jn x [] Pu).length + (jn x [] Pv).length ≤ N := by
      have a1 := jn_le x Pu []
      have a2 := jn_le x Pv []
      rcases hmem with h | h
      · have := du h; omega
      · have := dv h; omega
    have nu' : ∀ d ∈ jn x [] Pu, d ≠ [] := jn_nonempty nu
    have nv' : ∀ d ∈ jn x [] Pv, d ≠ [] := jn_nonempty nv
    rcases hph with h | h
    · exact ih _ _ hN' mu' mv' nu' nv' (step1 h nu eu ev)
    · rcases step2 h (mu.flat.trans hu) lu lv hmem eu ev with h | h
      · exact ih _ _ hN' mu' mv' nu' nv' (.inr h)
      · exact h
/-- each letter a part -/
def singles (w : Wd) : List Wd := w.map fun c => [c]
theorem singles_flat : ∀ w : Wd, (singles w).flatten = w
  | [] => rfl
  | c :: w => by
    show (([c] : Wd) :: singles w).flatten = _
    rw [List.flatten_cons, singles_flat w]; rfl
theorem singles_ne {w : Wd} : ∀ p ∈ singles w, p ≠ [] := fun p hp => by
  obtain ⟨c, _, rfl⟩ := List.mem_map.mp hp
  simp
/-- a marked word: it becomes itself -/
def Mark (u : Wd) : Prop := Mkd (singles u) u
theorem end_begin {u v y z y' : Wd} (mu : Mark u) (mv : Mark v) (hl : u.length = v.length) (ho : Odd u) (hu : u = y ++ z) (hv : v = z ++ y') (h1 : y ≠ []) (h2 : z ≠ []) (h3 : y' ≠ []) : Odd z := by
  refine odd_of hu ho hl _ _ _ (Nat.le_refl _) mu mv singles_ne singles_ne (.inl ⟨singles y, singles z, singles y', ?_, ?_, ?_, ?_, ?_, singles_flat z⟩)
  · rw [hu]; unfold singles; exact List.map_append
  · rw [hv]; unfold singles; exact List.map_append
  · unfold singles; simpa using h1
  · unfold singles; simpa using h2
  · unfold singles; simpa using h3
/-- THE THEOREM: no marked word stands amid two of them -/
theorem comma_free {u v w y s p y' : Wd} (mu : Mark u) (mv : Mark v) (mw : Mark w) (ho : Odd w) (hu : u.length = w.length) (hv : v.length = w.length) (e1 : w = s ++ p) (e2 : u = y ++ s) (e3 : v = p ++ y') (hs : s ≠ []) (hp : p ≠ []) : False := by
  have l1 := congrArg List.length e1
  have l2 := congrArg List.length e2
  have l3 := congrArg List.length e3
  rw [List.length_append] at l1 l2 l3
  have ps := List.length_pos_iff.mpr hs
  have pp := List.length_pos_iff.mpr hp
  have hy : y ≠ [] := fun z => by rw [z] at l2; simp at l2; omega
  have hy' : y' ≠ [] := fun z => by rw [z] at l3; simp at l3; omega
  have os := end_begin mu mw hu (by unfold Odd at *; omega) e2 e1 hy hs hp
  have op := end_begin mw mv hv.symm ho e1 e3 hs hp hy'
  unfold Odd at *
  omega
/-- only one turn of a word is marked -/
theorem mark_uniq {a b : Wd} (m1 : Mark (a ++ b)) (m2 : Mark (b ++ a)) (ho : Odd (a ++ b)) : a ++ b = b ++ a := by
  rcases Classical.em (a = []) with ha | ha
  · subst ha; simp
  rcases Classical.em (b = []) with hb | hb
  · subst hb; simp
  have hl : (a ++ b).length = (b ++ a).length := by simp only [List.length_append]; omega
  exact (comma_free (u := a ++ b) (v := a ++ b) (w := b ++ a) (s := b) (p := a) (y := a) (y' := b) m1 m1 m2 (by unfold Odd at *; omega) hl hl rfl rfl rfl hb ha).elim
end Mk

set_option linter.all false
/-! from a ring of parts to the marked turn -/
namespace Mk
/-- Q is P, begun elsewhere -/
def Rot (P Q : List Wd) : Prop := ∃ a b, P = a ++ b ∧ Q = b ++ a
theorem Rot.refl (P : List Wd) : Rot P P := ⟨[], P, rfl, by simp⟩
theorem Rot.trans {P Q R : List Wd} (h : Rot P Q) (k : Rot Q R) : Rot P R := by
  obtain ⟨a, b, rfl, rfl⟩ := h
  obtain ⟨c, d, e, rfl⟩ := k
  rcases List.append_eq_append_iff.mp e with ⟨m, h1, h2⟩ | ⟨m, h1, h2⟩
  · -- c = b ++ m, a = m ++ d
    subst h1 h2
    exact ⟨m, d ++ b, by simp, by simp⟩
  · -- b = c ++ m, d = m ++ a
    subst h1 h2
    exact ⟨a ++ c, m, by simp, by simp⟩
theorem Rot.mem {P Q : List Wd} (h : Rot P Q) {p : Wd} : p ∈ Q ↔ p ∈ P := by
  obtain ⟨a, b, rfl, rfl⟩ := h
  simp only [List.mem_append]
  exact Or.comm
theorem Rot.len {P Q : List Wd} (h : Rot P Q) : Q.length = P.length := by
  obtain ⟨a, b, rfl, rfl⟩ := h
  simp only [List.length_append]; omega
/-- where joined parts are cut, the parts are -/
theorem split_at {x : Wd} : ∀ {P : List Wd} {a : Wd} {C D : List Wd}, jn x a P = C ++ D → C ≠ [] → ∃ c d, P = c ++ d ∧ jn x a c = C ∧ Ends x c ∧ jn x [] d = D
  | [], a, C, D, h, hC => by
    have : C = [] := (List.append_eq_nil_iff.mp (show C ++ D = [] from h.symm)).1
    exact absurd this hC
  | p :: P, a, C, D, h, hC => by
    by_cases e : p = x
    · subst e
      rw [jn_x] at h
      obtain ⟨c, d, rfl, h1, h2, h3⟩ := split_at h hC
      exact ⟨p :: c, d, rfl, by rw [jn_x]; exact h1, ends_more (A := [p]) h2, h3⟩
    · rw [jn_o e] at h
      cases C with
      | nil => exact absurd rfl hC
      | cons c0 C =>
        rw [List.cons_append] at h
        injection h with h0 h
        subst h0
        rcases Classical.em (C = []) with hC0 | hC0
        · subst hC0
          exact ⟨[p], P, rfl, jn_one _ e, ⟨[], p, rfl, e⟩, h⟩
        · obtain ⟨c, d, rfl, h1, h2, h3⟩ := split_at h hC0
          exact ⟨p :: c, d, rfl, by rw [jn_o e, h1], ends_more (A := [p]) h2, h3⟩
/-- a ring of parts becomes the word u, whichever way it is begun at each step -/
inductive Ring : List Wd → Wd → Prop
  | one (u : Wd) : Ring [u] u
  | step (x : Wd) (P R : List Wd) (u : Wd) : 2 ≤ P.length → IsMin x P → Rot P R → Ends x R → Ring (jn x [] R) u → Ring P u
theorem Ring.mkd {P : List Wd} {u : Wd} (h : Ring P u) : ∃ Q, Rot P Q ∧ Mkd Q u := by
  induction h with
  | one u => exact ⟨[u], Rot.refl _, .one u⟩
  | step x P R u h2 hm hr he _ ih =>
    obtain ⟨Q', ⟨C, D, e, rfl⟩, hk⟩ := ih
    have fin : ∀ Q, Rot R Q → Ends x Q → jn x [] Q = D ++ C → ∃ Q, Rot P Q ∧ Mkd Q u := fun Q hq eq ej => by
      have hpq := hr.trans hq
      refine ⟨Q, hpq, .step x Q u (by rw [hpq.len]; exact h2) ⟨hpq.mem.mpr hm.mem, hm.low.odd, fun y hy => hm.low.low y (hpq.mem.mp hy)⟩ eq ?_⟩
      rw [ej]; exact hk
    rcases Classical.em (C = []) with hC | hC
    · subst hC
      exact fin R (Rot.refl _) he (by rw [e]; simp)
    · obtain ⟨c, d, rfl, h1, h2', h3⟩ := split_at e hC
      rcases Classical.em (d = []) with hd | hd
      · subst hd
        have hD : D = [] := h3.symm
        subst hD
        rw [List.append_nil] at he
        exact fin c ⟨[], c, by simp, by simp⟩ he (by rw [h1]; simp)
      · have ed := ends_app he hd
        refine fin (d ++ c) ⟨c, d, rfl, rfl⟩ (ends_more h2') ?_
        rw [jn_app, lo_ends ed, h3, h1]
theorem singles_split : ∀ {w : Wd} {a b : List Wd}, singles w = a ++ b → ∃ x y, w = x ++ y ∧ a = singles x ∧ b = singles y
  | w, [], b, h => ⟨[], w, rfl, rfl, h.symm⟩
  | [], p :: a, b, h => by unfold singles at h; simp at h
  | c :: w, p :: a, b, h => by
    have h : ([c] : Wd) :: singles w = p :: (a ++ b) := h
    injection h with h0 h
    obtain ⟨x, y, rfl, rfl, rfl⟩ := singles_split h
    exact ⟨c :: x, y, rfl, by rw [← h0]; rfl, rfl⟩
/-- what is made of a word: a marked turn of it -/
theorem Ring.mark {w u : Wd} (h : Ring (singles w) u) : ∃ a b, w = a ++ b ∧ u = b ++ a ∧ Mark u := by
  obtain ⟨Q, ⟨A, B, e, rfl⟩, hk⟩ := h.mkd
  obtain ⟨a, b, rfl, rfl, rfl⟩ := singles_split e
  have hu := hk.flat
  rw [List.flatten_append, singles_flat, singles_flat] at hu
  subst hu
  refine ⟨a, b, rfl, rfl, ?_⟩
  unfold Mark
  have : singles (b ++ a) = singles b ++ singles a := by unfold singles; exact List.map_append
  rw [this]; exact hk
end Mk

set_option Elab.async false
set_option linter.all false
set_option maxRecDepth 100000
set_option maxHeartbeats 4000000
/-! the least of a list of pairs (length, text): which one -/
namespace Ami
open PySem PySem.Spec PyProof.Rows L2
/-- a part with its length ahead, as data -/
def dSz (p : List Nat) : PyData := .tuple [.int (p.length : Nat), .str ⟨p.toArray⟩]
theorem str_of_eq {p q : List Nat} (h : (⟨p.toArray⟩ : Str) = ⟨q.toArray⟩) : p = q := by
  have h2 : p.toArray = q.toArray := by injection h
  exact congrArg Array.toList h2
theorem lt_sz (p q : List Nat) : PySem.W.dataLt (dSz p) (dSz q) = true ↔ Mk.small p q := by
  unfold dSz Mk.small
  rw [PySem.W.dataLt_pair (by simp [PySem.W.alike]) (by simp [PySem.W.alike]), PySem.W.dataLt_int, PySem.W.dataLt_str]
  simp only [PyData.eqv, beq_iff_eq]
  by_cases h1 : (p.length : Int) = (q.length : Int)
  · have h1' : p.length = q.length := by omega
    rw [if_pos h1]
    by_cases h2 : (⟨p.toArray⟩ : Str) = ⟨q.toArray⟩
    · rw [if_pos h2]
      have e := str_of_eq h2
      subst e
      constructor
      · intro z; exact nomatch z
      · rintro (z | ⟨_, z⟩)
        · omega
        · exact absurd z (List.lt_irrefl _)
    · rw [if_neg h2, decide_eq_true_eq]
      show p < q ↔ _
      constructor
      · intro z; exact .inr ⟨h1', z⟩
      · rintro (z | ⟨_, z⟩)
        · omega
        · exact z
  · have h1' : p.length ≠ q.length := by omega
    rw [if_neg h1, decide_eq_true_eq]
    constructor
    · intro z; left; omega
    · rintro (z | ⟨z, _⟩)
      · omega
      · exact absurd z h1'
theorem min_sz : ∀ (ps : List (List Nat)) (p : List Nat), ∃ r, r ∈ p :: ps ∧ PySem.W.minD (dSz p) (ps.map dSz) = dSz r ∧ ∀ q ∈ p :: ps, ¬ Mk.small q r
  | [], p => ⟨p, List.mem_cons_self, rfl, fun q hq => by
    rw [List.mem_singleton.mp hq]
    rintro (z | ⟨_, z⟩)
    · omega
    · exact absurd z (List.lt_irrefl _)⟩
  | q :: ps, p => by
    have e : PySem.W.minD (dSz p) ((q :: ps).map dSz) = PySem.W.minD (dSz (if PySem.W.dataLt (dSz q) (dSz p) = true then q else p)) (ps.map dSz) := by
      unfold PySem.W.minD
      rw [List.map_cons, List.foldl_cons]
      split <;> rfl
    obtain ⟨r, hr, er, hm⟩ := min_sz ps (if PySem.W.dataLt (dSz q) (dSz p) = true then q else p)
    rw [e, er]
    have tr : ∀ {a b c : List Nat}, ¬ Mk.small b a → ¬ Mk.small c b → ¬ Mk.small c a := fun {a b c} h1 h2 h3 => by
      unfold Mk.small at h1 h2 h3
      rcases h3 with h3 | ⟨h3, l3⟩
      · omega
      · have a1 : ¬ b < a := fun z => h1 (.inr ⟨by omega, z⟩)
        have a2 : ¬ c < b := fun z => h2 (.inr ⟨by omega, z⟩)
        have b1 : a ≤ c := List.le_trans (List.not_lt.mp a1) (List.not_lt.mp a2)
        exact absurd l3 (List.not_lt.mpr b1)
    have self : ∀ a : List Nat, ¬ Mk.small a a := fun a => by
      rintro (z | ⟨_, z⟩)
      · omega
      · exact absurd z (List.lt_irrefl _)
    by_cases hq : PySem.W.dataLt (dSz q) (dSz p) = true
    · rw [if_pos hq] at hr hm
      have hs := (lt_sz q p).mp hq
      refine ⟨r, ?_, rfl, fun y hy => ?_⟩
      · rcases List.mem_cons.mp hr with h | h
        · rw [h]; simp
        · simp [h]
      · rcases List.mem_cons.mp hy with rfl | hy
        · refine tr (hm q List.mem_cons_self) fun z => ?_
          unfold Mk.small at z hs
          rcases z with z | ⟨z, l⟩
          · omega
          · rcases hs with s | ⟨s, l'⟩
            · omega
            · exact absurd l (List.lt_asymm l')
        · exact hm y hy
    · rw [if_neg hq] at hr hm
      have hs : ¬ Mk.small q p := fun z => hq ((lt_sz q p).mpr z)
      refine ⟨r, ?_, rfl, fun y hy => ?_⟩
      · rcases List.mem_cons.mp hr with h | h
        · rw [h]; simp
        · simp [h]
      · rcases List.mem_cons.mp hy with rfl | hy
        · exact hm _ List.mem_cons_self
        · rcases List.mem_cons.mp hy with rfl | hy
          · exact tr (hm p List.mem_cons_self) hs
          · exact hm y (List.mem_cons_of_mem _ hy)
section
variable {X : Cx}
/-- the object is a pair of a part's length and the part -/
def Szd (K : PySem.W.Frag) (H : Hp) (v : V) (p : List Nat) : Prop := ∃ q, v = .ref q ∧ SqT K H q [.int (p.length : Nat), .str ⟨p.toArray⟩]
theorem dp_szd {K : PySem.W.Frag} {H : Hp} : ∀ {vs : List V} {ps : List (List Nat)}, vs.length = ps.length → (∀ (i : Nat) (v : V) (p : List Nat), vs[i]? = some v → ps[i]? = some p → Szd K H v p) → DpAll K H vs (ps.map dSz)
  | [], [], _, _ => .nil
  | [], _ :: _, h, _ => nomatch h
  | _ :: _, [], h, _ => nomatch h
  | v :: vs, p :: ps, h, k => by
    obtain ⟨q, rfl, s⟩ := k 0 v p rfl rfl
    exact .cons (.tup s (.cons (.int _) (.cons (.str _) .nil))) (dp_szd (by simpa using h) fun i v' p' h1 h2 => k (i + 1) v' p' h1 h2)
theorem dep_szd : ∀ ps : List (List Nat), PyData.depthAll (ps.map dSz) ≤ 1
  | [] => by decide
  | p :: ps => by
    show max (dSz p).depth (PyData.depthAll (ps.map dSz)) ≤ 1
    have := dep_szd ps
    have e : (dSz p).depth = 1 := rfl
    omega
theorem alk_szd (ps : List (List Nat)) : PySem.W.AlikeAll (ps.map dSz) := by
  refine ⟨fun x hx y hy => ?_, fun x hx => ?_⟩
  · obtain ⟨p, _, rfl⟩ := List.mem_map.mp hx
    obtain ⟨q, _, rfl⟩ := List.mem_map.mp hy
    rfl
  · obtain ⟨p, _, rfl⟩ := List.mem_map.mp hx
    exact fun z => nomatch z
def rMinSz (K : PySem.W.Frag) : List V → Hp → VK → Prop := fun vs H Q => ∃ (a : Addr) (xs : List V) (ps : List (List Nat)), vs = [V.ref a] ∧ SqL K H a xs ∧ xs.length = ps.length ∧ (∀ (i : Nat) (v : V) (p : List Nat), xs[i]? = some v → ps[i]? = some p → Szd K H v p) ∧ ps ≠ [] ∧
  ∀ v p, p ∈ ps → (∀ q ∈ ps, ¬ Mk.small q p) → Szd K H v p → Q v H
theorem cr_minSz (hc : X.calm = true) (hu : X.A.units + 64 < cLine) : CallR X (.builtin "min") (rMinSz X.K) := by
  intro pins s σ H vs us Q I r h
  obtain ⟨a, xs, ps, rfl, hs, hlen, hsz, hne, q⟩ := h
  obtain ⟨its, rv, hl, _⟩ := I.list hs
  obtain ⟨as, hr⟩ := Dp.readsAll I (ps.map dSz) xs its (dp_szd hlen hsz) rv
  rw [Vals.ref1 r]
  cases ps with
  | nil => exact absurd rfl hne
  | cons x ps =>
    have hdep : PyData.depthAll ((x :: ps).map dSz) ≤ 1 := dep_szd (x :: ps)
    refine PySem.W.min_list_data (x := dSz x) (xs := ps.map dSz) (vs := its.toArray) (I.ok.hd hc) hl.isList hr (alk_szd (x :: ps)) (by have : PyData.depthAll (dSz x :: ps.map dSz) ≤ 1 := hdep; omega) fun i v h' tk bs hv rd hk => ?_
    obtain ⟨w, hw, rw'⟩ := vals_at rv (by simpa using hv)
    obtain ⟨m, hm, em, hleast⟩ := min_sz ps x
    rw [em] at rd
    have hi : i < (x :: ps).length := by
      rw [← hlen]
      exact (List.getElem?_eq_some_iff.mp hw).1
    obtain ⟨b, rfl, sb⟩ := hsz i w _ hw (List.getElem?_eq_getElem hi)
    -- the pair that is least is the pair at i
    have ep : (x :: ps)[i] = m := by
      obtain ⟨its2, rv2, hl2, _⟩ := I.tuple sb
      cases rw'
      obtain ⟨o2, ho2, _, n2, hd2⟩ := hl2
      unfold dSz at rd
      cases rd with
      | tuple ho _ hd hra =>
        rw [hk _ _ ho2] at ho
        cases ho
        rw [hd2] at hd
        injection hd with h1 _
        subst h1
        cases rv2 with
        | cons ru1 rt =>
          cases rt with
          | cons ru2 rt2 =>
            cases rt2
            obtain ⟨k2, rfl⟩ := ru2
            have hra : ReadsAll _ [_, Value.str ⟨((x :: ps)[i]).toArray⟩ k2] [.int (m.length : Nat), .str ⟨m.toArray⟩] _ := hra
            cases hra with
            | cons _ r2 =>
              cases r2 with
              | cons r3 _ =>
                generalize (x :: ps)[i] = y at r3 ⊢
                have e : (⟨y.toArray⟩ : Str) = ⟨m.toArray⟩ := by
                  cases r3
                  rfl
                exact str_of_eq e
    refine ⟨.ref b, H, I.kept hk, rw', q _ m hm hleast ?_⟩
    rw [← ep]
    exact ⟨b, rfl, sb⟩
end
end Ami

set_option Elab.async false
set_option linter.all false
set_option maxRecDepth 100000
set_option maxHeartbeats 4000000
/-! how often a text stands in a list of texts -/
namespace Ami
open PySem PySem.Spec PyProof.Rows L2
theorem strs_vals : ∀ {ss : List Str} {us : List Value}, Vals (ss.map V.str) us → StrsAre us ss
  | [], _, .nil => .nil
  | x :: ss, u :: us, .cons r t => by
    obtain ⟨k, e⟩ := r
    subst e
    exact .cons x k (strs_vals t)
theorem isStr_count {k : Str} : ∀ {us : List Value} {ss : List Str}, StrsAre us ss → us.countP (isStrOf k) = ss.count k
  | _, _, .nil => rfl
  | _, _, .cons x t r => by
    have ih := isStr_count (k := k) r
    rw [List.countP_cons, List.count_cons, ih]
    rfl
section
variable {X : Cx}
def rCntT (K : PySem.W.Frag) : V → List V → Hp → VK → Prop := fun x xs H Q => ∃ (p : Addr) (ss : List Str) (k : Str), x = .ref p ∧ xs = [.str k] ∧ SqL K H p (ss.map V.str) ∧ Q (.int (ss.count k : Nat)) H
theorem mt_tcount : MtR X "list.count" (rCntT X.K) := by
  intro pins s σ H x xs v us Q I rx rxs h
  obtain ⟨p, ss, k, rfl, rfl, hs, q⟩ := h
  cases rx
  obtain ⟨u, rfl, t, rfl⟩ := rxs.one
  obtain ⟨its, rv, ⟨o, n, ho, hc, hdn, hd⟩, hlen⟩ := I.list hs
  have hi := strs_vals rv
  obtain ⟨oc, odi, oda, osl⟩ := o
  dsimp only at hc hd hdn
  subst hc hd
  refine call_meets PySem.F.slot_list_count ⟨_, ho, rfl⟩ PySem.F.entry_list_count (PySem.F.args_list_count_2 _ _) (SeqAt.list_countAt p its.toArray n odi osl (.str k t) (isStrOf k)) ?_
  refine ⟨ho, fun y hy => (eq_isStrOf k t hi y (by simpa using hy)).at _ _, .int (ss.count k : Nat), H, I.tok _, ⟨s.toks, ?_⟩, q⟩
  have e := isStr_count (k := k) hi
  show Value.int ((its.toArray.toList.countP (isStrOf k) : Nat) : Int) s.toks = _
  rw [e]
end
end Ami

set_option Elab.async false
set_option linter.all false
set_option maxRecDepth 100000
set_option maxHeartbeats 4000000
/-! the least of a list of texts; sorted of a tuple of texts; sets of the texts of a list or a tuple -/
namespace Ami
open PySem PySem.Spec PyProof.Rows L2
theorem min_txt : ∀ (ps : List Str) (p : Str), ∃ r, r ∈ p :: ps ∧ PySem.W.minD (.str p) (ps.map PyData.str) = .str r ∧ ∀ q ∈ p :: ps, ¬ q.cps.toList < r.cps.toList
  | [], p => ⟨p, List.mem_cons_self, rfl, fun q hq => by rw [List.mem_singleton.mp hq]; exact List.lt_irrefl _⟩
  | q :: ps, p => by
    have e : PySem.W.minD (.str p) ((q :: ps).map PyData.str) = PySem.W.minD (.str (if PySem.W.dataLt (.str q) (.str p) = true then q else p)) (ps.map PyData.str) := by
      unfold PySem.W.minD
      rw [List.map_cons, List.foldl_cons]
      split <;> rfl
    obtain ⟨r, hr, er, hm⟩ := min_txt ps (if PySem.W.dataLt (.str q) (.str p) = true then q else p)
    rw [e, er]
    have tr : ∀ {a b c : List Nat}, ¬ b < a → ¬ c < b → ¬ c < a := fun {a b c} h1 h2 => List.not_lt.mpr (List.le_trans (List.not_lt.mp h1) (List.not_lt.mp h2))
    by_cases hq : PySem.W.dataLt (.str q) (.str p) = true
    · rw [if_pos hq] at hr hm
      rw [PySem.W.dataLt_str, decide_eq_true_eq] at hq
      refine ⟨r, ?_, rfl, fun y hy => ?_⟩
      · rcases List.mem_cons.mp hr with h | h
        · rw [h]; simp
        · simp [h]
      · rcases List.mem_cons.mp hy with rfl | hy
        · exact tr (hm q List.mem_cons_self) (List.lt_asymm hq)
        · exact hm y hy
    · rw [if_neg hq] at hr hm
      rw [PySem.W.dataLt_str, decide_eq_true_eq] at hq
      refine ⟨r, ?_, rfl, fun y hy => ?_⟩
      · rcases List.mem_cons.mp hr with h | h
        · rw [h]; simp
        · simp [h]
      · rcases List.mem_cons.mp hy with rfl | hy
        · exact hm _ List.mem_cons_self
        · rcases List.mem_cons.mp hy with rfl | hy
          · exact tr (hm p List.mem_cons_self) hq
          · exact hm y (List.mem_cons_of_mem _ hy)
theorem dp_txts {K : PySem.W.Frag} {H : Hp} : ∀ ss : List Str, DpAll K H (ss.map V.str) (ss.map PyData.str)
  | [] => .nil
  | s :: ss => .cons (.str s) (dp_txts ss)
theorem dep_txts : ∀ ss : List Str, PyData.depthAll (ss.map PyData.str) = 0
  | [] => rfl
  | s :: ss => by
    show max 0 (PyData.depthAll (ss.map PyData.str)) = 0
    rw [dep_txts ss]; rfl
section
variable {X : Cx}
def rMinT (K : PySem.W.Frag) : List V → Hp → VK → Prop := fun vs H Q => ∃ (a : Addr) (ss : List Str), vs = [V.ref a] ∧ SqL K H a (ss.map V.str) ∧ ss ≠ [] ∧ ∀ y, y ∈ ss → (∀ x ∈ ss, ¬ x.cps.toList < y.cps.toList) → Q (.str y) H
theorem cr_minT {K0 : PySem.W.Frag} (hK : X.K = K0) (hc : X.calm = true) (hu : X.A.units + 64 < cLine) : CallR X (.builtin "min") (rMinT K0) := by
  subst hK
  intro pins s σ H vs us Q I r h
  obtain ⟨a, ss, rfl, hs, hne, q⟩ := h
  obtain ⟨its, rv, hl, _⟩ := I.list hs
  obtain ⟨as, hr⟩ := Dp.readsAll I (ss.map PyData.str) _ its (dp_txts ss) rv
  rw [Vals.ref1 r]
  cases ss with
  | nil => exact absurd rfl hne
  | cons x ss =>
    have hdep : PyData.depthAll (.str x :: ss.map PyData.str) = 0 := dep_txts (x :: ss)
    have hal : PySem.W.AlikeAll ((x :: ss).map PyData.str) := by
      refine ⟨fun a ha b hb => ?_, fun a ha => ?_⟩
      · obtain ⟨p, _, rfl⟩ := List.mem_map.mp ha
        obtain ⟨q, _, rfl⟩ := List.mem_map.mp hb
        rfl
      · obtain ⟨p, _, rfl⟩ := List.mem_map.mp ha
        exact fun z => nomatch z
    refine PySem.W.min_list_data (x := .str x) (xs := ss.map PyData.str) (vs := its.toArray) (I.ok.hd hc) hl.isList hr hal (by omega) fun i v h' tk bs hv rd hk => ?_
    obtain ⟨m, hm, em, hleast⟩ := min_txt ss x
    rw [em] at rd
    cases rd with
    | str _ t => exact ⟨.str m, H, I.kept hk, ⟨t, rfl⟩, q m hm hleast⟩
end
section
variable {prog : Program} {w : World} {A : Around} {E : Value → Shared → Prop} {s : Shared}
theorem collect_tupT {l : Addr} {vs : List Value} {Q : List Value → Shared → Prop} (hl : s.heap.IsTuple l vs.toArray) (hsz : vs.length ≤ sizeLine)
    (h : Q vs { s with heap := (s.heap.push (seqObj "list" #[] 0)).update s.heap.objs.size (Obj.mapSeq (· ++ vs.toArray)) }) : wpAny (model prog w) A (collect (.ref l)) Q E s := by
  obtain ⟨o, ho, hc, n, hd⟩ := id hl
  have ho' : (s.heap.push (seqObj "list" #[] 0)).get? l = some o ∧ (Value.type "tuple" == Value.type "tuple") = true := ⟨Heap.get?_push_of_some _ ho, by rfl⟩
  have hn : (s.heap.push (seqObj "list" #[] 0)).get? s.heap.objs.size = some (seqObj "list" #[] 0) := Heap.get?_push_size _ rfl
  unfold collect
  refine wpAny_bind (wpAny_runValue (codeAny_builtin entry_proto_collect' (?_ : wpAny _ _ (do again (.builtin "list.__iadd__" ⟨[← newList [], .ref l], []⟩)) _ _ s)))
  refine wpAny_bind (wpAny_newList (wpAny_pure ⟨Code.quiet_builtin _ (by decide +kernel), codeAny_builtin entry_list_iadd' (?_ : wpAny _ _ (Builtin.List.listExtendWith (.ref s.heap.objs.size) (.ref l) (.ref s.heap.objs.size)) _ _ { s with heap := s.heap.push (seqObj "list" #[] 0) })⟩))
  unfold Builtin.List.listExtendWith
  refine wpAny_bind (wpAny_typeOf (T := "tuple") ⟨o, ho'.1, hc⟩ (?_ : _))
  rw [if_pos (by rw [ho'.2, Bool.or_true])]
  refine wpAny_bind (listItems_at ho'.1 hd (wpAny_bind (listItems_at (xs := #[]) (n := 0) hn rfl ?_)))
  rw [if_neg (by intro z; exact nomatch z)]
  have room : ((#[] : Array Value) ++ vs.toArray).size ≤ sizeLine + 1 := by
    simp only [Array.size_append, List.size_toArray, List.length_nil]; omega
  refine wpAny_bind (listUpdate_at (xs := #[]) (n := 0) hn rfl (wpAny_pure ?_) (Nat.zero_le _) room)
  have fin : wpAny (model prog w) A (pure ((#[] : Array Value) ++ vs.toArray).toList) Q E { s with heap := (s.heap.push (seqObj "list" #[] 0)).update s.heap.objs.size (Obj.mapSeq (· ++ vs.toArray)) } := by
    have e : ((#[] : Array Value) ++ vs.toArray).toList = vs := by simp
    rw [e]; exact wpAny_pure h
  exact wpAny_bind (wpAny_load (get?_update_seq hn _) fin)
/-- sorted(t) of a tuple of texts -/
theorem sorted_tupT {l : Addr} {vs : List Value} {ss : List Str} {Q : Value → Shared → Prop} (hl : s.heap.IsTuple l vs.toArray) (hS : StrsAre vs ss) (hz : vs.length ≤ sizeLine)
    (h : ∀ out : List Value, SrtO.Srtd ltV out → SrtO.Stb ltV out vs → Q (.ref (s.heap.objs.size + 1)) { s with heap := sortedAll s.heap vs out.toArray }) : wpAny (model prog w) A (call (.builtin "sorted") [.ref l]) Q E s := by
  refine Calls.call_function_entry kind_sorted plain_sorted entry_sorted (args_sorted1 _) ?_
  unfold Builtin.«sorted»
  generalize hB : (s.heap.push (seqObj "list" #[] 0)).update s.heap.objs.size (Obj.mapSeq (· ++ vs.toArray)) = B
  refine wpAny_bind (m := checkCount "sorted" 1 1 _) (wpAny_pure (wpAny_bind (collect_tupT hl hz (wpAny_bind (wpAny_newList ?_ hz)))))
  rw [hB]
  have hsz : B.objs.size = s.heap.objs.size + 1 := by rw [← hB, Heap.size_update, Heap.size_push]
  have hoL : (B.push (seqObj "list" vs.toArray 0)).get? B.objs.size = some (seqObj "list" vs.toArray 0) := Heap.get?_push_size _ rfl
  have post : ∀ out : List Value, SrtO.Srtd ltV out → SrtO.Stb ltV out vs → Q (.ref B.objs.size) { s with heap := sortedHeap (B.push (seqObj "list" vs.toArray 0)) B.objs.size vs out.toArray } := fun out h1 h2 => by
    have q := h out h1 h2
    unfold sortedAll at q
    rw [hB, ← hsz] at q
    exact q
  exact wpAny_bind (wpAny_holding (wpAny_call_entry slot_list_sort ⟨_, hoL, rfl⟩ entry_list_sort (SrtO.list_sort_ord swo_txt hoL hz (fun h2 => txt_sortable hS h2) fun out hs hb => ⟨_, rfl, wpAny_pure ⟨_, rfl, post out hs hb⟩⟩) (args_list_sort _)))
end
section
variable {X : Cx}
def rSortedTT (K : PySem.W.Frag) : List V → Hp → VK → Prop := fun vs H Q => ∃ (a : Addr) (ss : List Str), vs = [V.ref a] ∧ SqT K H a (ss.map V.str) ∧
  ∀ (ys : List Str) (p : Addr), ys.Perm ss → Up ys → H p = none → Q (.ref p) (upd H p (.lst (ys.map V.str)))
theorem cr_sortedTT : CallR X (.builtin "sorted") (rSortedTT X.K) := by
  intro pins s σ H vs us Q I r h
  obtain ⟨a, ss, rfl, hs, q⟩ := h
  obtain ⟨its, rv, hl, hz⟩ := I.tuple hs
  rw [Vals.ref1 r]
  have hS := strs_of rv
  have hz' : its.length ≤ sizeLine := by rw [← rv.length]; exact hz
  refine sorted_tupT (vs := its) hl hS hz' fun out h1 h2 => ?_
  obtain ⟨k1, k2, k3⟩ := txt_out hS h1 h2
  obtain ⟨ep, he'⟩ := PyProof.Rows.sortedAll_at s.heap its out.toArray
  have hlen : ((out.map txtV).map V.str).length ≤ sizeLine := by
    rw [List.length_map] at hz ⊢
    rw [k2.length_eq]; exact hz
  have J : Inv X pins σ (upd H (s.heap.objs.size + 1) (.lst ((out.map txtV).map V.str))) { s with heap := PyProof.Rows.sortedAll s.heap its out.toArray } :=
    I.laid (t' := s.toks) (fun _ _ => PyProof.Rows.sortedAll_old) (Nat.le_succ _) ⟨hlen, out, ep, vals_of_strs k1, he'⟩
  exact ⟨V.ref (s.heap.objs.size + 1), _, J, rfl, q _ _ k2 k3 (I.hok.fresh (Nat.le_succ _))⟩
end
section
variable {P : Program} {w : World} {h : Heap}
theorem at_txt {its : List Value} {ss : List Str} (hS : StrsAre its ss) : ∀ (i : Nat) (v : Value), its[i]? = some v → keyIs (.inr (ss.getD i Str.empty)) v = true := by
  induction hS with
  | nil => intro i v hv; exact nomatch hv
  | cons x t r ih =>
    intro i v hv
    cases i with
    | zero => cases hv; exact keyIs_str _ _
    | succ i => exact ih i v hv
theorem fills_tup {l : Addr} {its : List Value} {ss : List Str} (hl : h.IsTuple l its.toArray) (hS : StrsAre its ss) : Fills P w h (.ref l) "tuple" its.length (fun i => .inr (ss.getD i Str.empty)) where
  ty := fun s' k => by
    obtain ⟨o, ho, hc, _⟩ := hl
    exact ⟨o, k _ _ ho, hc⟩
  s1 := by rw [isSubtype_type]; kernel_rfl
  s2 := by rw [isSubtype_type]; kernel_rfl
  nd := by decide
  it := fun A E s' Q k hq => by
    have hl' : s'.heap.IsTuple l its.toArray := by
      obtain ⟨o, ho, r⟩ := hl
      exact ⟨o, k _ _ ho, r⟩
    have hlt : l < s'.heap.objs.size := by
      obtain ⟨o, ho, _⟩ := hl'
      exact Heap.lt_size ho
    refine wpAny_pyIter_tuple hl' ?_
    exact hq _ s'.heap.objs.size [s'.heap.objs.size, l] (fun i v => its.toArray[i]? = some v) (fun i h => h.IsTupleIter s'.heap.objs.size l i ∧ h.IsTuple l its.toArray) (fun b o e => Heap.get?_push_of_some _ e) (Nat.le_refl _) List.mem_cons_self
      (fun b hb => by
        rcases List.mem_cons.mp hb with e | e
        · exact .inl e
        · obtain ⟨o, ho, _⟩ := hl
          exact .inr ⟨o, by rw [List.mem_singleton.mp e]; exact ho⟩)
      (fun A2 h2 => Walks.tuple h2 _ l (Nat.ne_of_lt hlt) its.toArray) ⟨⟨_, Heap.get?_push_size _ rfl, rfl, rfl⟩, hl'.push _⟩ fun i v _ hv => at_txt hS i v (by simpa using hv)
theorem fills_lst {l : Addr} {its : List Value} {ss : List Str} (hl : h.IsList l its.toArray) (hS : StrsAre its ss) : Fills P w h (.ref l) "list" its.length (fun i => .inr (ss.getD i Str.empty)) where
  ty := fun s' k => by
    obtain ⟨o, ho, hc, _⟩ := hl
    exact ⟨o, k _ _ ho, hc⟩
  s1 := by rw [isSubtype_type]; kernel_rfl
  s2 := by rw [isSubtype_type]; kernel_rfl
  nd := by decide
  it := fun A E s' Q k hq => by
    have hl' : s'.heap.IsList l its.toArray := by
      obtain ⟨o, ho, r⟩ := hl
      exact ⟨o, k _ _ ho, r⟩
    have hlt : l < s'.heap.objs.size := by
      obtain ⟨o, ho, _⟩ := hl'
      exact Heap.lt_size ho
    refine wpAny_pyIter_list hl' ?_
    exact hq _ s'.heap.objs.size [s'.heap.objs.size, l] (fun i v => its.toArray[i]? = some v) (fun i h => h.IsListIter s'.heap.objs.size l i ∧ h.IsList l its.toArray) (fun b o e => Heap.get?_push_of_some _ e) (Nat.le_refl _) List.mem_cons_self
      (fun b hb => by
        rcases List.mem_cons.mp hb with e | e
        · exact .inl e
        · obtain ⟨o, ho, _⟩ := hl
          exact .inr ⟨o, by rw [List.mem_singleton.mp e]; exact ho⟩)
      (fun A2 h2 => Walks.list h2 _ l (Nat.ne_of_lt hlt) its.toArray) ⟨⟨_, Heap.get?_push_size _ rfl, rfl, rfl⟩, hl'.push _⟩ fun i v _ hv => at_txt hS i v (by simpa using hv)
end
section
variable {X : Cx}
/-- set(xs) of a list or a tuple of texts -/
def rSetTx (K : PySem.W.Frag) (w : World) : List V → Hp → VK → Prop := fun vs H Q => ∃ (a : Addr) (ss : List Str), vs = [V.ref a] ∧ (SqL K H a (ss.map V.str) ∨ SqT K H a (ss.map V.str)) ∧ ss.length < scanBound ∧
  ∀ (p : Addr) (l : List Str), H p = none → l.Nodup → (∀ x, x ∈ l ↔ x ∈ ss) → Q (.ref p) (upd H p (SW w p (l.map Sum.inr)))
theorem cr_setTx (hc : X.calm = true) : CallR X (.type "set") (rSetTx X.K X.w) := by
  intro pins s σ H vs us Q I r h
  obtain ⟨a, ss, rfl, hs, hb, q⟩ := h
  rw [Vals.ref1 r]
  have fin : ∀ (h' : Heap) (tk : Nat) (l : List Key), (∀ b o, s.heap.get? b = some o → h'.get? b = some o) → SetW X.w h' s.heap.objs.size l → (∀ k, k ∈ l ↔ ∃ j, j < ss.length ∧ k = Sum.inr (ss.getD j Str.empty)) → EP X pins σ Q (.ref s.heap.objs.size) { s with heap := h', toks := tk } := fun h' tk l k R m => by
    have hm : ∀ k, k ∈ l ↔ ∃ x ∈ ss, k = Sum.inr x := fun k => by
      rw [m k]
      constructor
      · rintro ⟨j, hj, e⟩
        refine ⟨_, ?_, e⟩
        rw [List.getD_eq_getElem?_getD, List.getElem?_eq_getElem hj]
        exact List.getElem_mem hj
      · rintro ⟨x, hx, e⟩
        obtain ⟨j, hj, e3⟩ := List.getElem_of_mem hx
        refine ⟨j, hj, ?_⟩
        rw [e, List.getD_eq_getElem?_getD, List.getElem?_eq_getElem hj, e3]; rfl
    have el : l = (l.map txtK).map Sum.inr := by
      rw [List.map_map]
      conv => lhs; rw [← List.map_id l]
      refine List.map_congr_left fun k hk => ?_
      obtain ⟨x, _, e⟩ := (hm k).mp hk
      rw [e]; rfl
    have nd := R.nodup
    rw [el] at R nd hm
    have mm : ∀ x, x ∈ l.map txtK ↔ x ∈ ss := fun x => by
      have := hm (.inr x)
      rw [inr_mem] at this
      rw [this]
      exact ⟨fun ⟨y, hy, e⟩ => by cases e; exact hy, fun hy => ⟨x, hy, rfl⟩⟩
    exact ⟨.ref s.heap.objs.size, _, I.laid (t' := tk) k (Nat.le_refl _) (sw_new R), rfl, q _ _ (I.hok.fresh (Nat.le_refl _)) ((List.pairwise_map.mp nd).imp fun h e => h (congrArg _ e)) mm⟩
  rcases hs with hs | hs
  · obtain ⟨its, rv, hl, _⟩ := I.list hs
    have e : its.length = ss.length := by rw [← rv.length, List.length_map]
    exact call_set_w (I.ok.hd hc) (by rw [e]; exact hb) (fills_lst (its := its) hl.isList (strs_of rv)) fun h' tk l k R m => fin h' tk l k R fun x => by rw [m x, e]
  · obtain ⟨its, rv, hl, _⟩ := I.tuple hs
    have e : its.length = ss.length := by rw [← rv.length, List.length_map]
    exact call_set_w (I.ok.hd hc) (by rw [e]; exact hb) (fills_tup (its := its) hl (strs_of rv)) fun h' tk l k R m => fin h' tk l k R fun x => by rw [m x, e]
/-- len of a set of texts -/
theorem cr_lenW : CallR X (.builtin "len") (fun vs H Q => ∃ (a : Addr) (ss : List Str), vs = [V.ref a] ∧ H a = some (SW X.w a (ss.map Sum.inr)) ∧ Q (.int (ss.length : Nat)) H) := by
  intro pins s σ H vs us Q I r h
  obtain ⟨a, ss, rfl, ha, q⟩ := h
  rw [Vals.ref1 r]
  obtain ⟨o, es, ep, t, ho, hex, hd, _, _, hp, hb, hf, _⟩ := sw_get I ha
  have hn : es.size = ss.length := by
    have := hp.length_eq
    rw [List.length_map] at this
    unfold keysIn at this
    rw [List.length_map, Array.length_toList] at this
    exact this.symm
  have hb' : es.size < 2 ^ 62 := Nat.lt_trans hb (by decide)
  exact call_len_set ho hex hd hf (by omega) ⟨.int (ss.length : Nat), H, I.tok _, ⟨_, by rw [hn]⟩, q⟩
end
end Ami

set_option Elab.async false
set_option linter.all false
set_option maxRecDepth 100000
set_option maxHeartbeats 2000000
/-! sets of the signs of a long text of few signs -/
namespace Ami
open PySem PySem.Spec PyProof.Rows L2
theorem nd_len {α : Type} [DecidableEq α] : ∀ {l m : List α}, l.Nodup → (∀ x ∈ l, x ∈ m) → l.length ≤ m.length
  | [], _, _, _ => Nat.zero_le _
  | a :: l, m, nd, h => by
    rw [List.nodup_cons] at nd
    have ha := h a List.mem_cons_self
    have ih := nd_len (m := m.erase a) nd.2 fun x hx => (List.mem_erase_of_ne (show x ≠ a from fun e => nd.1 (by rw [← e]; exact hx))).mpr (h x (List.mem_cons_of_mem _ hx))
    rw [List.length_erase_of_mem ha] at ih
    have := List.length_pos_of_mem ha
    rw [List.length_cons]
    omega
section
variable {P : Program} {w : World} {A : Around} {E : Value → Shared → Prop} {s : Shared} {a : Addr} {l l' : List Key} {h h' : Heap}
/-- what is walked goes into the set -/
theorem loop_wR {I : Addr} {fp : List Addr} {n : Nat} {Pv : Nat → Value → Prop} {St : Nat → Heap → Prop} (W : Walks P w A.in1 I fp [I] n Pv St) (haf : a ∉ fp) (hfI : I ∈ fp) {f : Nat → Key} (hf : ∀ i v, i < n → Pv i v → keyIs (f i) v = true) {R : Result → Shared → Prop} (room : ∀ i, i < n → ∀ l : List Key, l.Nodup → (∀ k ∈ l, ∃ j, j < i ∧ k = f j) → l.length + 1 < scanBound) :
    ∀ (m i : Nat) (l : List Key) (s : Shared), n - i = m → i ≤ n → SetW w s.heap a l → St i s.heap → (∀ k ∈ l, ∃ j, j < i ∧ k = f j) →
    (∀ (h' : Heap) (tk : Nat) (l' : List Key), (∀ b o, b ≠ a → b ≠ I → s.heap.get? b = some o → h'.get? b = some o) →
      SetW w h' a l' → (∀ k, k ∈ l' ↔ k ∈ l ∨ ∃ j, i ≤ j ∧ j < n ∧ k = f j) → R (.ok (.ret .none)) { s with heap := h', toks := tk }) →
    codeAny (model P w) A (.builtin "set.update.loop" ⟨[.ref a, .ref I], []⟩) R s := by
  have haI : a ≠ I := fun e => haf (e ▸ hfI)
  intro m
  induction m with
  | zero =>
    intro i l s hm hi ha hst hb h
    have hin : i = n := by omega
    subst hin
    refine codeAny_builtin PyProof.Rows.F.entry_set_update_loop ?_
    rw [Around.under_plainId PyProof.Rows.F.plain_set_update_loop _]
    show wpAny _ A.in1 (pyNext (.ref I) >>= _) _ _ s
    refine wpAny_bind (W.done s _ _ hst fun h' tk hk => ?_)
    show wpAny _ A.in1 (ret Value.none) _ _ _
    refine wpAny_pure (h h' tk l (fun b o _ hb e => hk b o (by simpa using hb) e) (ha.at fun o e => hk a o (by simpa using haI) e) fun k => ⟨.inl, fun z => z.elim id fun ⟨j, h1, h2, _⟩ => by omega⟩)
  | succ m ih =>
    intro i l s hm hi ha hst hb h
    have hlt : i < n := by omega
    refine codeAny_builtin PyProof.Rows.F.entry_set_update_loop ?_
    rw [Around.under_plainId PyProof.Rows.F.plain_set_update_loop _]
    show wpAny _ A.in1 (pyNext (.ref I) >>= _) _ _ s
    refine wpAny_bind (W.item i s _ _ hlt hst fun v h1 tk hP hst1 hk1 => ?_)
    have hkey : keyIs (f i) v = true := hf i v hlt hP
    show wpAny _ A.in1 (holding [v] (setAdd a v) >>= _) _ _ _
    refine wpAny_bind (wpAny_holding ?_)
    unfold setAdd
    refine wpAny_holding ?_
    refine wpAny_bind ((mixKind P w).pyHash (k := f i) hkey ?_)
    refine add_w (s := { s with heap := h1, toks := tk + 1 }) (ha.at fun o e => hk1 a o (by simpa using haI) e) hkey (room i hlt l ha.nodup hb) fun b h2 l2 sb R2 q1 q2 => ?_
    have hm2 : ∀ k, k ∈ l2 ↔ k ∈ l ∨ k = f i := fun k => by
      rcases Classical.em (f i ∈ l) with z | z
      · rw [q1 z]
        exact ⟨.inl, fun y => y.elim id fun e => e ▸ z⟩
      · rw [q2 z, List.mem_cons]
        exact Or.comm
    have hst2 : St (i + 1) h2 := W.frame _ _ _ hst1 fun c hc o e => (sb.2 c fun z => haf (z ▸ hc)).trans e
    refine wpAny_pure ⟨plainId_quiet PyProof.Rows.F.plain_set_update_loop _, ih (i + 1) l2 { s with heap := h2, toks := tk + 1 } (by omega) hlt R2 hst2 (fun k hk => ((hm2 k).mp hk).elim (fun z => let ⟨j, j1, j2⟩ := hb k z; ⟨j, by omega, j2⟩) fun z => ⟨i, by omega, z⟩) fun h3 tk3 l3 k3 R3 m3 => ?_⟩
    refine h h3 tk3 l3 (fun c o hc1 hc2 e => k3 c o hc1 hc2 ((sb.2 c hc1).trans (hk1 c o (by simpa using hc2) e))) R3 fun k => ?_
    rw [m3 k, hm2 k]
    constructor
    · rintro ((q | q) | ⟨j, j1, j2, q⟩)
      · exact .inl q
      · exact .inr ⟨i, Nat.le_refl _, hlt, q⟩
      · exact .inr ⟨j, by omega, j2, q⟩
    · rintro (q | ⟨j, j1, j2, q⟩)
      · exact .inl (.inl q)
      · by_cases e : j = i
        · subst e; exact .inl (.inr q)
        · exact .inr ⟨j, by omega, j2, q⟩


set_option maxHeartbeats 4000000 in
theorem call_set_wR {v : Value} {T : String} {n : Nat} {f : Nat → Key} {Q : Value → Shared → Prop} (hh : A.handled = none) (room : ∀ i, i < n → ∀ l : List Key, l.Nodup → (∀ k ∈ l, ∃ j, j < i ∧ k = f j) → l.length + 1 < scanBound) (F : Fills P w s.heap v T n f)
    (h : ∀ (h' : Heap) (tk : Nat) (l : List Key), (∀ b o, s.heap.get? b = some o → h'.get? b = some o) → SetW w h' s.heap.objs.size l → (∀ k, k ∈ l ↔ ∃ j, j < n ∧ k = f j) → Q (.ref s.heap.objs.size) { s with heap := h', toks := tk }) :
    wpAny (model P w) A (call (.type "set") [v]) Q E s := by
  obtain ⟨c, tl, hmro⟩ := PySem.F.called_set.mro
  have hmade := PySem.F.called_set.made
  have hsub := PySem.F.called_set.sub
  have keep0 : ∀ b o, s.heap.get? b = some o → (s.heap.push { cls := .type "set", dict := none, data := .set #[] 0 (.fresh 0 0 (!w.params.followText "set-order")) }).get? b = some o := fun b o e => Heap.get?_push_of_some _ e
  refine wpAny_call (codeAny_of_tree ?_)
  show wpAny _ _ (callAny (.type "set") _) _ _ _
  refine wpAny_pure ⟨Code.quiet_builtin _ (by decide +kernel), codeAny_builtin PySem.F.entry_type_call ?_⟩
  rw [Around.under_plain (weight_type_call_type "set" [v] []) rfl]
  have h1 := PySem.F.called_set.notType
  have h2 := PySem.F.called_set.canCreate
  have hct := PySem.F.typeCall_set_1 v
  repeat (any_goals (first | assumption | wp_step))
  refine codeAny_mono (new_led v (E := E) (Q₁ := fun obj s₁ => obj = .ref s.heap.objs.size ∧ s₁ = { s with heap := s.heap.push { cls := .type "set", dict := none, data := .set #[] 0 (.fresh 0 0 (!w.params.followText "set-order")) } }) ⟨rfl, rfl⟩) fun r s₁ hr => ?_
  cases r with
  | error e => exact hr
  | ok fl =>
    cases fl with
    | ret obj =>
      obtain ⟨rfl, rfl⟩ := hr
      have hS : (s.heap.push { cls := .type "set", dict := none, data := .set #[] 0 (.fresh 0 0 (!w.params.followText "set-order")) }).get? s.heap.objs.size = some { cls := .type "set", dict := none, data := .set #[] 0 (.fresh 0 0 (!w.params.followText "set-order")) } := Heap.get?_push_size _ rfl
      have hT : Shared.TypeIs { s with heap := s.heap.push { cls := .type "set", dict := none, data := .set #[] 0 (.fresh 0 0 (!w.params.followText "set-order")) } } (.ref s.heap.objs.size) "set" := ⟨_, hS, rfl⟩
      have hli := PySem.F.called_set.init.lookup
      have hbi := PySem.F.called_set.init.bind (.ref s.heap.objs.size)
      repeat (any_goals (first | assumption | wp_step))
      refine codeAny_mono (codeAny_call_builtin (R := wants (fun r s₂ => r = .none ∧ ∃ h' tk l, s₂ = { s with heap := h', toks := tk } ∧ (∀ b o, s.heap.get? b = some o → h'.get? b = some o) ∧ SetW w h' s.heap.objs.size l ∧
          (∀ k, k ∈ l ↔ ∃ j, j < n ∧ k = f j)) E) PySem.F.called_set.init.plain PySem.F.entry_set_init (PySem.check_set_init_1 hT ?_)) fun r₂ s₂ hr₂ => ?_
      · have hTv := F.ty { s with heap := s.heap.push { cls := .type "set", dict := none, data := .set #[] 0 (.fresh 0 0 (!w.params.followText "set-order")) } } keep0
        have q1 := F.s1
        have q2 := F.s2
        have q3 := F.nd
        unfold Builtin.«set.__init__» noKeywords Builtin.Frozenset.updateFrom
        generalize hPI : pyIter = PI
        wp_walk
        subst hPI
        refine F.it _ _ _ _ keep0 fun h1' I fp Pv St k1 hI hfI hfp W st hkey => ?_
        have hI' : s.heap.objs.size + 1 ≤ I := by
          have z := hI
          simp only [Heap.size_push] at z
          exact z
        have haf : s.heap.objs.size ∉ fp := fun m => by
          rcases hfp _ m with z | ⟨o, z⟩
          · exact absurd hI' (by rw [← z]; exact Nat.not_succ_le_self _)
          · exact absurd (Heap.lt_size z) (Nat.lt_irrefl _)
        refine wpAny_bind (wpAny_runValue ?_)
        refine loop_wR (A := A.in1.in1) (W _ (by simp [hh])) haf hfI hkey room n 0 [] _ (Nat.sub_zero n) (Nat.zero_le _) ((setW_fresh w _ ?_).at fun o e => k1 _ o e) st (fun k hk => nomatch hk) fun h2 tk l2 k2 R2 m2 => ?_
        · cases w.params.followText "set-order"
          · exact .inr rfl
          · exact .inl rfl
        · refine wpAny_pure ?_
          show wpAny _ _ (ret Value.none) _ _ _
          refine wpAny_pure ⟨rfl, h2, tk, l2, rfl, fun b o e => ?_, R2, fun k => ?_⟩
          · have hb := Heap.lt_size e
            exact k2 b o (Nat.ne_of_lt hb) (Nat.ne_of_lt (Nat.lt_of_lt_of_le hb (Nat.le_of_succ_le hI'))) (k1 b o (keep0 b o e))
          · rw [m2 k]
            constructor
            · rintro (z | ⟨j, _, h2, h3⟩)
              · cases z
              · exact ⟨j, h2, h3⟩
            · rintro ⟨j, h2, h3⟩
              exact .inr ⟨j, Nat.zero_le _, h2, h3⟩
      · cases r₂ with
        | error e => exact hr₂
        | ok fl₂ =>
          cases fl₂ with
          | ret r =>
            obtain ⟨rfl, h', tk, l, rfl, hk', hS', hm'⟩ := hr₂
            repeat (any_goals (first | assumption | wp_step))
            exact h _ _ l hk' hS' hm'
          | _ => exact hr₂.elim
    | _ => exact hr.elim

end
section
variable {X : Cx}
/-- set(z), z's signs being among few -/
theorem cr_setStrF {w0 : World} (hw : X.w = w0) (hc : X.calm = true) : CallR X (.type "set") (fun vs H Q => ∃ (z : Str) (L : List Str), vs = [.str z] ∧ (∀ x ∈ letts z, x ∈ L) ∧ L.length + 1 < scanBound ∧
    ∀ (p : Addr) (l : List Str), H p = none → l.Nodup → (∀ x, x ∈ l ↔ x ∈ letts z) → Q (.ref p) (upd H p (SW w0 p (l.map Sum.inr)))) := by
  subst hw
  intro pins s σ H vs us Q I r h
  obtain ⟨z, L, rfl, hL, hb, q⟩ := h
  obtain ⟨u, rfl, t, rfl⟩ := vals1 r
  have at_in : ∀ j, j < z.cps.size → one (z.cps.getD j 0) ∈ letts z := fun j hj => by
    unfold letts
    refine List.mem_map.mpr ⟨_, ?_, rfl⟩
    rw [Array.getD_eq_getD_getElem?, Array.getElem?_eq_getElem hj]
    exact Array.mem_toList_iff.mpr (Array.getElem_mem hj)
  have room : ∀ i, i < z.cps.size → ∀ l : List Key, l.Nodup → (∀ k ∈ l, ∃ j, j < i ∧ k = Sum.inr (one (z.cps.getD j 0))) → l.length + 1 < scanBound := fun i hi l nd hl => by
    have e : ∀ k ∈ l, k ∈ L.map Sum.inr := fun k hk => by
      obtain ⟨j, hj, rfl⟩ := hl k hk
      exact List.mem_map.mpr ⟨_, hL _ (at_in j (by omega)), rfl⟩
    have := nd_len nd e
    rw [List.length_map] at this
    omega
  refine call_set_wR (I.ok.hd hc) (n := z.cps.size) room fills_text fun h' tk l k R m => ?_
  have hm : ∀ k, k ∈ l ↔ ∃ x ∈ letts z, k = Sum.inr x := fun k => by
    rw [m k]
    constructor
    · rintro ⟨j, hj, e⟩
      exact ⟨_, at_in j hj, e⟩
    · rintro ⟨x, hx, e⟩
      obtain ⟨c, hc, e2⟩ := List.mem_map.mp hx
      obtain ⟨j, hj, e3⟩ := List.getElem_of_mem hc
      rw [Array.length_toList] at hj
      refine ⟨j, hj, ?_⟩
      rw [e, ← e2, Array.getD_eq_getD_getElem?, Array.getElem?_eq_getElem hj]
      rw [Array.getElem_toList] at e3
      rw [e3]; rfl
  have el : l = (l.map txtK).map Sum.inr := by
    rw [List.map_map]
    conv => lhs; rw [← List.map_id l]
    refine List.map_congr_left fun k hk => ?_
    obtain ⟨x, _, e⟩ := (hm k).mp hk
    rw [e]; rfl
  have nd := R.nodup
  rw [el] at R nd hm
  have mm : ∀ x, x ∈ l.map txtK ↔ x ∈ letts z := fun x => by
    have := hm (.inr x)
    rw [inr_mem] at this
    rw [this]
    exact ⟨fun ⟨y, hy, e⟩ => by cases e; exact hy, fun hy => ⟨x, hy, rfl⟩⟩
  exact ⟨.ref s.heap.objs.size, _, I.laid (t' := tk) k (Nat.le_refl _) (sw_new R), rfl, q _ _ (I.hok.fresh (Nat.le_refl _)) ((List.pairwise_map.mp nd).imp fun h e => h (congrArg _ e)) mm⟩
end
end Ami

set_option Elab.async false
set_option linter.all false
set_option maxRecDepth 100000
set_option maxHeartbeats 2000000
namespace K49
open PySem PySem.Spec PyProof.Rows L2 Ami
def top (i : Nat) : Stmt := PySem.Challenge.pw_amidread_k49_whole_comma_free_books_as_g.main.body.getD i (.Pass ⟨0, 0, 0, 0⟩)
abbrev sWith : Stmt := top 4
abbrev sAfter : Stmt := top 5
abbrev sTurns : Stmt := top 6
abbrev sLeast : Stmt := top 7
abbrev sRep : Stmt := top 8
abbrev sCF : Stmt := top 10
abbrev sBook : Stmt := top 11
abbrev sMark : Stmt := top 12
abbrev sJoin : Stmt := top 13
abbrev sRin : Stmt := top 15
abbrev sAllR : Stmt := top 16
abbrev sRings : Stmt := top 17
abbrev sDeck : Stmt := top 19
abbrev sDraw : Stmt := top 20
abbrev sPick : Stmt := top 21
abbrev sTurns1 : Stmt := top 22
abbrev sBare : Stmt := top 23
abbrev sAll : Stmt := top 24
abbrev sApart : Stmt := top 25
abbrev sGreat : Stmt := top 26
abbrev sLaw : Stmt := top 27
/-- the deck as a dict -/
def dkv (c : Addr) (b n : Int) : List (Key × V) := [(.inr "heap", .ref c), (.inr "mixed", .int b), (.inr "lap", .int n)]
theorem nHM : ¬ (Sum.inr (Str.ofString "heap") : Key) = .inr (Str.ofString "mixed") := by decide +kernel
theorem nHL : ¬ (Sum.inr (Str.ofString "heap") : Key) = .inr (Str.ofString "lap") := by decide +kernel
theorem nML : ¬ (Sum.inr (Str.ofString "mixed") : Key) = .inr (Str.ofString "lap") := by decide +kernel
theorem val_heap (c : Addr) (b n : Int) : valV (dkv c b n) (.inr "heap") = some (.ref c) := valV_pos rfl
theorem val_mixed (c : Addr) (b n : Int) : valV (dkv c b n) (.inr "mixed") = some (.int b) := (valV_neg nHM).trans (valV_pos rfl)
theorem val_lap (c : Addr) (b n : Int) : valV (dkv c b n) (.inr "lap") = some (.int n) := (valV_neg nHL).trans ((valV_neg nML).trans (valV_pos rfl))
theorem put_lap (c : Addr) (b n m : Int) : putK (dkv c b n) (.inr "lap") (.int m) = dkv c b m := by
  unfold putK
  rw [valV_any, val_lap, Option.isSome_some, if_pos rfl]
  simp only [dkv, List.map_cons, List.map_nil, if_neg nHL, if_neg nML, if_true]
theorem merge_deck (c : Addr) (b n : Int) : mergeK [] (dkv c b n) = dkv c b n := by
  unfold mergeK dkv
  simp only [List.foldl_cons, List.foldl_nil, putK, List.any_nil, List.any_cons, Bool.false_eq_true, if_false, List.nil_append, List.cons_append, decide_eq_false nHM, decide_eq_false nHL, decide_eq_false nML, Bool.or_false]
theorem get_heap {H : Hp} {d c : Addr} {b n : Int} (h : H d = some (.dK (dkv c b n))) : DGet H d (.str "heap") (some (.ref c)) := by
  have q := DGet.k (k := .inr "heap") h
  rw [val_heap] at q
  exact q
theorem get_mixed {H : Hp} {d c : Addr} {b n : Int} (h : H d = some (.dK (dkv c b n))) : DGet H d (.str "mixed") (some (.int b)) := by
  have q := DGet.k (k := .inr "mixed") h
  rw [val_mixed] at q
  exact q
theorem get_lap {H : Hp} {d c : Addr} {b n : Int} (h : H d = some (.dK (dkv c b n))) : DGet H d (.str "lap") (some (.int n)) := by
  have q := DGet.k (k := .inr "lap") h
  rw [val_lap] at q
  exact q
theorem set_lap {H : Hp} {d c : Addr} {b n m : Int} (h : H d = some (.dK (dkv c b n))) : DPut H d (.str "lap") (.int m) (upd H d (.dK (dkv c b m))) := by
  have q := DPut.k (k := .inr "lap") (v := .int m) h (by show 3 < sizeLine; decide)
  rw [put_lap] at q
  exact q
/-- the deck at d, its integers at c, behind n draws -/
def DD (H : Hp) (d c : Addr) (n : Nat) : Prop := c ≠ d ∧ ∃ (b : Int) (cells : List Int), H d = some (.dK (dkv c b n)) ∧ H c = some (.lst (cells.map V.int)) ∧ cells.length ≤ 63
theorem DD.same {H H' : Hp} {d c : Addr} {n : Nat} (D : DD H d c n) (s : Same H H') : DD H' d c n := by
  obtain ⟨h, b, cells, h1, h2, h3⟩ := D
  exact ⟨h, b, cells, s _ _ h1, s _ _ h2, h3⟩
theorem DD.ned {H : Hp} {d c p : Addr} {n : Nat} (D : DD H d c n) (hp : H p = none) : p ≠ d ∧ p ≠ c := by
  obtain ⟨h, b, cells, h1, h2, h3⟩ := D
  exact ⟨fun e => (by rw [e, h1] at hp; cases hp), fun e => (by rw [e, h2] at hp; cases hp)⟩
theorem DD.new {H : Hp} {d c p : Addr} {n : Nat} {o : HO} (D : DD H d c n) (hp : H p = none) : DD (upd H p o) d c n := D.same (Same.upd hp)
theorem DD.set {H : Hp} {d c p : Addr} {n : Nat} {o : HO} (D : DD H d c n) (h1 : p ≠ d) (h2 : p ≠ c) : DD (upd H p o) d c n := by
  obtain ⟨h, b, cells, e1, e2, e3⟩ := D
  exact ⟨h, b, cells, by rw [upd_ne (Ne.symm h1)]; exact e1, by rw [upd_ne (Ne.symm h2)]; exact e2, e3⟩
/-- a draw below bd -/
def spDraw : Sp := fun vs H Q _ => ∃ (d c : Addr) (n : Nat) (bd : Int), vs = [.ref d, .int bd] ∧ 0 < bd ∧ bd < 1073741824 ∧ n < 1000000 ∧ DD H d c n ∧
  ∀ (H' : Hp) (r : Int), 0 ≤ r → r < bd → DD H' d c (n + 1) → But d c H H' → Q (.int r) H'
/-- a pick from a list or a text -/
def spPick (K : PySem.W.Frag) : Sp := fun vs H Q _ => ∃ (d c : Addr) (n : Nat) (x : V) (xs : List V), vs = [.ref d, x] ∧ xs ≠ [] ∧ xs.length < 1073741824 ∧ n < 1000000 ∧ DD H d c n ∧ Stay d c (fun H' => Some1 K H' x xs) H ∧
  ∀ (H' : Hp) (y : V), y ∈ xs → DD H' d c (n + 1) → But d c H H' → Q y H'
/-- a new deck over the script -/
def spDeck (K : PySem.W.Frag) : Sp := fun vs H Q _ => ∃ (a : Addr) (ns : List Int), vs = [.ref a] ∧ SqL K H a (ns.map V.int) ∧ ns.length ≤ 63 ∧
  ∀ (H' : Hp) (d c : Addr), H d = none → H c = none → DD H' d c 0 → Same H H' → Q (.ref d) H'
/-- the names of the built-ins that no one has taken -/
structure Blt (mg : Str → Option Value) : Prop where
  len : mg "len" = none
  int : mg "int" = none
  list : mg "list" = none
  range : mg "range" = none
  tuple : mg "tuple" = none
  any : mg "any" = none
  max : mg "max" = none
  min : mg "min" = none
  sorted : mg "sorted" = none
  isi : mg "isinstance" = none
  enumerate : mg "enumerate" = none
  sum : mg "sum" = none
  repr : mg "repr" = none
  set : mg "set" = none
section
variable {P : Program} {w : World} {K : PySem.W.Frag} {mg : Str → Option Value} {base : Heap}
theorem scDraw : FnScope ["_law_deck_here", "_law_many", "_law_lap", "_law_mixed", "_law_item"] ["_law_deck_here", "_law_many"] (defScope sDraw) := ⟨rfl, rfl, rfl, by decide +kernel, rfl, by decide +kernel, by decide +kernel⟩
theorem ok_draw {f : Addr} {fd : FuncData} (F : Fun K "_law_draw" "_law_draw" sDraw f fd) (T : Blt mg) : FnOk P w K mg base CX0 1 f fd ["_law_deck_here", "_law_many"] spDraw := by
  refine F.ok scDraw (fun vs H Q E h => ?_) (fun cdv A outer s H vs Q E hr h => ?_)
  · obtain ⟨d, c, n, bd, rfl, _⟩ := h
    rfl
  · obtain ⟨d, c, n, bd, rfl, hb0, hb1, hn, ⟨hcd, b, cells, hd, hc, hlen⟩, k⟩ := h
    have hu := hr.units
    have hu1 := hu_of hr
    refine ⟨_, pss_cons (ps_par (i := 2) (j := 3) rfl scDraw.nd rfl rfl (by decide) rfl rfl (pa_cons (pe_op op_add (pe_dget hu1 (pv 0) pe_str (fun _ _ => rfl)) pe_int) (pa_cons (pe_dget hu1 (pv 0) pe_str (fun _ _ => rfl)) pa_nil)) (by rfl))
      (pss_cons (ps_dput hu1 (pv 0) pe_str (pv 2) rfl)
      (C8.pss_cut (ps_if (pt_cmpR (op_neD hu) (pe_dget hu1 (pv 0) pe_str (fun _ _ => rfl)) (pe_lst pa_nil) (nomark _))
        (pss_cons (ps_set (i := 4) scDraw.nd rfl (Or.inl rfl) (pe_bm0 PySem.F.plainAttrs_list PySem.F.slot_list_pop PySem.F.type_list_pop mt_pop (pe_dget hu1 (pv 0) pe_str (fun _ _ => rfl))))
        (pss_cons (ps_if (pt_cmpR op_ge (pv 4) (pe_op op_pow pe_int pe_int) (nomark _))
          (pss_cons (ps_expr (pe_bm PySem.F.plainAttrs_list PySem.F.slot_list_append PySem.F.type_list_append mt_append (pe_dget hu1 (pv 0) pe_str (fun _ _ => rfl)) (pa_cons (pe_op op_fdiv (pv 4) (pv 1)) pa_nil)))
          (pss_one (ps_ret (pe_op op_mod (pe_callTy call_int1 (by rfl) T.int (by decide +kernel) (pa_cons (pv 4) pa_nil)) (pv 1)))))
          pss_nil)
        (pss_one (ps_set (i := 3) scDraw.nd rfl (Or.inl rfl) (pe_op op_add (pv 3) (pe_callTy call_int1 (by rfl) T.int (by decide +kernel) (pa_cons (pv 4) pa_nil))))))) pss_nil)
      (pss_cons (ps_set (i := 3) scDraw.nd rfl (Or.inl rfl) (pe_op op_mul (pe_callTy call_int1 (by rfl) T.int (by decide +kernel) (pa_cons (pe_op op_add (pe_op op_add (pe_op op_mod (pe_callTy call_int1 (by rfl) T.int (by decide +kernel) (pa_cons (pv 3) pa_nil)) pe_int) (pe_op op_mul (pe_op op_mul pe_int (pv 2)) (pv 2))) pe_int) pa_nil)) pe_int))
      (pss_cons (ps_set (i := 3) scDraw.nd rfl (Or.inl rfl) (pe_op op_mod (pe_callTy call_int1 (by rfl) T.int (by decide +kernel) (pa_cons (pv 3) pa_nil)) pe_int))
      (pss_cons (ps_set (i := 3) scDraw.nd rfl (Or.inl rfl) (pe_op op_mod (pe_callTy call_int1 (by rfl) T.int (by decide +kernel) (pa_cons (pe_op op_add (pe_op op_add (pe_op op_mul (pv 3) (pv 3)) (pe_op op_mul pe_int (pv 2))) pe_int) pa_nil)) pe_int))
      (pss_one (ps_ret (pe_op op_mod (pe_callTy call_int1 (by rfl) T.int (by decide +kernel) (pa_cons (pe_op op_fdiv (pe_op op_mod (pe_callTy call_int1 (by rfl) T.int (by decide +kernel) (pa_cons (pe_op op_mul (pv 3) pe_int) pa_nil)) pe_int) pe_int) pa_nil)) (pv 1))))))))), ?_⟩
    have hn1 : ((n : Int) + 1) = ((n + 1 : Nat) : Int) := by omega
    refine ⟨_, rfl, d, _, rfl, get_lap hd, _, _, rfl, rfl, _, rfl, d, _, rfl, get_mixed hd, _, _, rfl, ?_⟩
    refine ⟨_, rfl, _, rfl, d, _, rfl, set_lap hd, ?_⟩
    have hd1 : (upd H d (.dK (dkv c b ((n : Int) + 1)))) d = some (.dK (dkv c b (n + 1 : Nat))) := by rw [upd_same, ← hn1]
    have hc1 : (upd H d (.dK (dkv c b ((n : Int) + 1)))) c = some (.lst (cells.map V.int)) := by rw [upd_ne hcd]; exact hc
    have b1 : But d c H (upd H d (.dK (dkv c b ((n : Int) + 1)))) := fun x o h1 _ e => by rw [upd_ne h1]; exact e
    revert hd1 hc1 b1
    generalize upd H d (.dK (dkv c b ((n : Int) + 1))) = H1
    intro hd1 hc1 b1
    refine ⟨fun σ H3 => ∃ (m : Int) (cell : Option V), σ = [some (.ref d), some (.int bd), some (.int ((n : Int) + 1)), some (.int m), cell] ∧ DD H3 d c (n + 1) ∧ But d c H H3, ?_, ?_⟩
    · refine ⟨_, rfl, d, _, rfl, get_heap hd1, Nat.zero_le _, fun p hp => ?_⟩
      have npc : c ≠ p := ne_of_none hc1 hp
      have npd : d ≠ p := ne_of_none hd1 hp
      have hd2 : (upd H1 p (.lst [])) d = some (.dK (dkv c b (n + 1 : Nat))) := by rw [upd_ne npd]; exact hd1
      have hc2 : (upd H1 p (.lst [])) c = some (.lst (cells.map V.int)) := by rw [upd_ne npc]; exact hc1
      have hp2 : (upd H1 p (.lst [])) p = some (.lst []) := upd_same
      have b2 : But d c H (upd H1 p (.lst [])) := b1.new hp
      revert hd2 hc2 hp2 b2
      generalize upd H1 p (.lst []) = H2
      intro hd2 hc2 hp2 b2
      refine ne_nil (SqL.of hc2) (SqL.of hp2) (all_ints _) ⟨_, rfl, ?_⟩
      by_cases hce : cells = []
      · subst hce
        refine iteF ?_
        exact ⟨_, _, rfl, ⟨hcd, b, [], hd2, hc2, by decide⟩, b2⟩
      · have hne : (!(cells.map V.int).isEmpty) = true := by
          cases cells with
          | nil => exact absurd rfl hce
          | cons a r => rfl
        rw [hne]
        refine iteT ?_
        obtain ⟨z, hz⟩ : ∃ z : Int, cells[cells.length - 1]? = some z := by
          have : cells.length - 1 < cells.length := by
            cases cells with
            | nil => exact absurd rfl hce
            | cons a r => simp
          exact ⟨_, List.getElem?_eq_getElem this⟩
        have hz' : (cells.map V.int)[(cells.map V.int).length - 1]? = some (V.int z) := by
          rw [List.length_map, List.getElem?_map, hz]; rfl
        refine ⟨_, rfl, d, _, rfl, get_heap hd2, .inl ⟨rfl, _, SqL.of hc2⟩, c, _, _, rfl, rfl, hc2, hz', ?_⟩
        have hdl : (cells.map V.int).dropLast = cells.dropLast.map V.int := (List.map_dropLast ..).symm
        have hd3 : (upd H2 c (.lst (cells.map V.int).dropLast)) d = some (.dK (dkv c b (n + 1 : Nat))) := by rw [upd_ne (Ne.symm hcd)]; exact hd2
        have hc3 : (upd H2 c (.lst (cells.map V.int).dropLast)) c = some (.lst (cells.dropLast.map V.int)) := by rw [upd_same, hdl]
        have b3 : But d c H (upd H2 c (.lst (cells.map V.int).dropLast)) := fun x o h1 h2 e => by rw [upd_ne h2]; exact b2 x o h1 h2 e
        revert hd3 hc3 b3
        generalize upd H2 c (.lst (cells.map V.int).dropLast) = H3
        intro hd3 hc3 b3
        have hl3 : cells.dropLast.length ≤ 62 := by rw [List.length_dropLast]; omega
        refine ⟨_, rfl, _, _, rfl, rfl, pow18, _, _, rfl, rfl, _, rfl, ?_⟩
        refine ite2 (fun _ => ?_) (fun _ => ?_)
        · refine ⟨_, rfl, d, _, rfl, get_heap hd3, .inl ⟨rfl, _, SqL.of hc3⟩, _, rfl, _, rfl, _, _, rfl, rfl, ⟨hb0, hb1⟩, c, _, _, rfl, rfl, hc3, ?_, ?_⟩
          · rw [List.length_map]; exact Nat.lt_of_le_of_lt hl3 (by decide)
          · refine ⟨_, rfl, .inl ⟨_, rfl, _, rfl, _, _, rfl, rfl, hb0, ?_⟩⟩
            refine k _ _ (Int.emod_nonneg _ (by omega)) (Int.emod_lt_of_pos _ hb0) ⟨hcd, b, cells.dropLast ++ [z / bd], ?_, ?_, ?_⟩ fun x o h1 h2 e => ?_
            · rw [upd_ne (Ne.symm hcd)]; exact hd3
            · rw [upd_same, List.map_append]; rfl
            · rw [List.length_append, List.length_singleton]; omega
            · rw [upd_ne h2]; exact b3 x o h1 h2 e
        · refine ⟨_, rfl, _, rfl, .inl ⟨_, rfl, _, _, rfl, rfl, ?_⟩⟩
          exact ⟨_, _, rfl, ⟨hcd, b, cells.dropLast, hd3, hc3, by omega⟩, b3⟩
    · rintro σ H3 ⟨m, cell, rfl, D3, b3⟩
      have r1 := mod_range m (m := 2147483579) (by decide)
      refine ⟨_, rfl, .inl ⟨_, rfl, _, _, rfl, rfl, (by show (0 : Int) < _; decide), _, rfl, _, _, rfl, rfl, .inl (by decide), _, rfl, _, _, rfl, rfl, .inr (by omega), _, _, rfl, rfl, _, _, rfl, rfl, .inl ⟨_, rfl, _, _, rfl, rfl, .inr (by decide), ?_⟩⟩⟩
      refine ⟨_, rfl, .inl ⟨_, rfl, _, _, rfl, rfl, (by show (0 : Int) < _; decide), ?_⟩⟩
      have r2 := mod_range ((m % 2147483579 + 52711 * ((n : Int) + 1) * ((n : Int) + 1) + 17) * 48271) (m := 2147483647) (by decide)
      refine ⟨_, rfl, _, rfl, _, _, rfl, rfl, .inl (by omega), _, rfl, _, _, rfl, rfl, .inl (by decide), _, _, rfl, rfl, _, _, rfl, rfl, .inl ⟨_, rfl, _, _, rfl, rfl, (by show (0 : Int) < _; decide), ?_⟩⟩
      refine ⟨_, rfl, _, _, rfl, rfl, .inr (by decide), .inl ⟨_, rfl, _, _, rfl, rfl, (by show (0 : Int) < _; decide), _, _, rfl, rfl, ⟨by decide, by decide⟩, .inl ⟨_, rfl, _, rfl, _, _, rfl, rfl, hb0, ?_⟩⟩⟩
      exact k _ _ (Int.emod_nonneg _ (by omega)) (Int.emod_lt_of_pos _ hb0) D3 b3
end
end K49

set_option Elab.async false
set_option linter.all false
set_option maxRecDepth 100000
set_option maxHeartbeats 2000000
namespace K49
open PySem PySem.Spec PyProof.Rows L2 Ami
theorem cut_ints (ns : List Int) (lo hi : Option Int) : ∃ ms : List Int, cutV (ns.map V.int) lo hi = ms.map V.int ∧ ms.length ≤ ns.length := by
  refine ⟨(ns.drop (HT.sIx (ns.map V.int).length 0 lo)).take (HT.sIx (ns.map V.int).length (ns.map V.int).length hi - HT.sIx (ns.map V.int).length 0 lo), ?_, ?_⟩
  · unfold cutV
    rw [List.map_take, List.map_drop]
  · rw [List.length_take, List.length_drop]; omega
section
variable {P : Program} {w : World} {K : PySem.W.Frag} {mg : Str → Option Value} {base : Heap}
theorem scPick : FnScope ["_law_deck_here", "_law_some"] ["_law_deck_here", "_law_some"] (defScope sPick) := ⟨rfl, rfl, rfl, by decide +kernel, rfl, by decide +kernel, by decide +kernel⟩
theorem ok_pick {f f1 : Addr} {fd fd1 : FuncData} (F : Fun K "_law_pick" "_law_pick" sPick f fd) (T : Blt mg) (D1 : DefAt K mg "_law_draw" sDraw ["_law_deck_here", "_law_many"] f1 fd1) : FnOk P w K mg base CX0 2 f fd ["_law_deck_here", "_law_some"] (spPick K) := by
  have G1 : FnOk P w K mg base CX0 1 f1 fd1 ["_law_deck_here", "_law_many"] spDraw := ok_draw D1.F T
  refine F.ok scPick (fun vs H Q E h => ?_) (fun cdv A outer s H vs Q E hr h => ?_)
  · obtain ⟨d, c, n, x, xs, rfl, _⟩ := h
    rfl
  · obtain ⟨d, c, n, x, xs, rfl, hne, hl, hn, D, hs, k⟩ := h
    have lp : 0 < xs.length := List.length_pos_iff.mpr hne
    refine ⟨_, pss_one (ps_ret (pe_ix ix_seq (pv 1) (pc D1 G1 hr (pa_cons (pv 0) (pa_cons (pe_callB call_len (by rfl) T.len PySem.boot_len (pa_cons (pv 1) pa_nil)) pa_nil))) (fun _ _ => rfl))), ?_⟩
    have hlen : LenV K x H xs.length := by
      cases hs.now with
      | lst h => exact .inl ⟨xs, h, rfl⟩
      | txt z h => exact ⟨h, by rw [List.length_map, letts_length]⟩
    refine ⟨_, rfl, _, rfl, _, rfl, _, _, rfl, hlen, ?_⟩
    refine ⟨d, c, n, _, rfl, by omega, by omega, hn, D, fun H' r h0 h1 D' B => ?_⟩
    obtain ⟨j, rfl⟩ : ∃ j : Nat, r = j := ⟨r.toNat, by omega⟩
    have hi : j < xs.length := by omega
    have mem : xs[j] ∈ xs := List.getElem_mem hi
    cases (hs.go B).now with
    | lst h => exact .inl ⟨_, xs, j, _, rfl, rfl, h, atI_nat (List.getElem?_eq_getElem hi), k _ _ mem D' B⟩
    | txt z h =>
      have hz : j < z.cps.toList.length := by
        rw [List.length_map, letts_length] at hi
        rw [Array.length_toList]; exact hi
      refine .inr (.inr ⟨z, j, z.cps.toList[j], rfl, rfl, h, atI_nat (List.getElem?_eq_getElem hz), ?_⟩)
      have e : ((letts z).map V.str)[j] = V.str ⟨#[z.cps.toList[j]]⟩ := by
        simp [letts, one]
      rw [← e]
      exact k _ _ mem D' B
theorem scDeck : FnScope ["_law_script", "_law_heap", "_law_mixed", "_law_item"] ["_law_script"] (defScope sDeck) := ⟨rfl, rfl, rfl, by decide +kernel, rfl, by decide +kernel, by decide +kernel⟩
theorem ok_deck {f : Addr} {fd : FuncData} (F : Fun K "_law_deck" "_law_deck" sDeck f fd) (T : Blt mg) : FnOk P w K mg base CX0 1 f fd ["_law_script"] (spDeck K) := by
  refine F.ok scDeck (fun vs H Q E h => ?_) (fun cdv A outer s H vs Q E hr h => ?_)
  · obtain ⟨a, ns, rfl, _⟩ := h
    rfl
  · obtain ⟨a, ns, rfl, hS, hlen, k⟩ := h
    refine ⟨_, pss_cons (ps_par (i := 1) (j := 2) rfl scDeck.nd rfl rfl (by decide) rfl rfl (pa_cons (pe_callTy call_list_of (by rfl) T.list (by decide +kernel) (pa_cons (pe_slice sl_list (pv 0) po_none (po_some pe_int)) pa_nil)) (pa_cons pe_int pa_nil)) (by rfl))
      (pss_cons (ps_for PassesOwn.never rfl (pi_list (pv 1)) (pg_name (i := 3) scDeck.nd rfl (Or.inl rfl))
        (pss_one (ps_set (i := 2) scDeck.nd rfl (Or.inl rfl) (pe_op op_mod (pe_callTy call_int1 (by rfl) T.int (by decide +kernel) (pa_cons (pe_op op_add (pe_op op_add (pe_op op_mul (pv 2) pe_int) (pe_op op_mod (pe_callTy call_int1 (by rfl) T.int (by decide +kernel) (pa_cons (pv 3) pa_nil)) pe_int)) pe_int) pa_nil)) pe_int))))
      (pss_one (ps_ret (pe_disp (pps_cons pe_str (pe_revL (pv 1)) (pps_cons pe_str (pv 2) (pps_cons pe_str pe_int pps_nil))) (by rfl) (by rfl) (fun z => by cases z) (by decide))))), ?_⟩
    obtain ⟨ms, em, hm⟩ := cut_ints ns none (some 60)
    refine ⟨_, rfl, _, rfl, a, _, rfl, hS, fun p hp => ⟨p, _, rfl, .inl (SqL.of upd_same), fun l hl => ⟨_, _, rfl, ?_⟩⟩⟩
    rw [em]
    have s1 : Same H (upd H p (.lst (ms.map V.int))) := Same.upd hp
    have hl' : (upd H p (.lst (ms.map V.int))) l = none := by rw [← em]; exact hl
    have s2 : Same H (upd (upd H p (.lst (ms.map V.int))) l (.lst (ms.map V.int))) := s1.trans (Same.upd hl')
    have h2 : (upd (upd H p (.lst (ms.map V.int))) l (.lst (ms.map V.int))) l = some (.lst (ms.map V.int)) := upd_same
    revert s2 h2
    generalize upd (upd H p (.lst (ms.map V.int))) l (.lst (ms.map V.int)) = H2
    intro s2 h2
    refine ⟨_, rfl, l, rfl, ⟨_, SqL.of h2⟩, for_list (K := K) (a := l) (xs := ms.map V.int) (fun i σ H' => ∃ (b : Int) (v : Option V), σ = [some (.ref a), some (.ref l), some (.int b), v] ∧ H' = H2)
      ⟨_, none, rfl, rfl⟩ (fun i σ H' _ ⟨_, _, _, e⟩ => by rw [e]; exact SqL.of h2) ?_ ?_⟩
    · rintro i y σ H' hi ⟨b, v, rfl, rfl⟩
      obtain ⟨z, rfl⟩ : ∃ z, y = V.int z := by
        rw [List.getElem?_map] at hi
        cases e : ms[i]? with
        | none => rw [e] at hi; cases hi
        | some z => rw [e] at hi; exact ⟨z, (Option.some.inj hi).symm⟩
      refine ⟨_, rfl, _, _, rfl, rfl, .inr (by decide), _, rfl, .inl ⟨_, rfl, _, _, rfl, rfl, (by show (0 : Int) < _; decide), _, _, rfl, rfl, _, _, rfl, rfl, .inl ⟨_, rfl, _, _, rfl, rfl, (by show (0 : Int) < _; decide), ?_⟩⟩⟩
      exact ⟨_, _, rfl, rfl⟩
    · rintro σ H' ⟨b, v, rfl, rfl⟩
      intro d hd
      refine ⟨_, rfl, l, _, rfl, SqL.of (Same.upd hd _ _ h2), fun c hc => ⟨_, rfl, ?_⟩⟩
      have ncd : c ≠ d := fun e => by rw [e, upd_same] at hc; cases hc
      have hc' : H' c = none := by rw [upd_ne ncd] at hc; exact hc
      refine ⟨(by rw [upd_ne (Ne.symm ncd)]; exact upd_same), dkv c b 0, rfl, (by show 3 ≤ 15; decide), ?_⟩
      rw [merge_deck]
      refine k _ d c (s2.free hd) (s2.free hc') ⟨ncd, b, ms.reverse, upd_same, ?_, ?_⟩ ?_
      · rw [upd_ne ncd, upd_same, List.map_reverse]
      · rw [List.length_reverse]; omega
      · intro x o e
        have e' := s2 x o e
        rw [upd_ne (ne_of_none e' hd), upd_ne (ne_of_none (Same.upd hd _ _ e') hc), upd_ne (ne_of_none e' hd)]
        exact e'
end
end K49

set_option Elab.async false
set_option linter.all false
set_option maxRecDepth 100000
set_option maxHeartbeats 2000000
namespace K49
open PySem PySem.Spec PyProof.Rows L2 Ami
/-- what stands behind k letters of two words joined, as long as the first of them -/
def amid (x y : Str) (k : Nat) : Str := cutS (x ++ y) (some (k : Int)) (some ((k + x.length : Nat) : Int))
/-- whether no word stands between two of them -/
def freeB (ws : List Str) : Bool := ws.all fun x => ws.all fun y => (List.range' 1 (x.length - 1)).all fun k => !decide (amid x y k ∈ ws)
def isEnd (ws : List Str) (z : Str) : Prop := ∃ w ∈ ws, ∃ a, 1 ≤ a ∧ a < w.length ∧ z = cutS w (some (a : Int)) none
def isBeg (ws : List Str) (z : Str) : Prop := ∃ w ∈ ws, ∃ a, 1 ≤ a ∧ a < w.length ∧ z = cutS w none (some (a : Int))
def hitAt (ws : List Str) (w : Str) (a : Nat) : Prop := isEnd ws (cutS w none (some (a : Int))) ∧ isBeg ws (cutS w (some (a : Int)) none)
theorem len_toList (z : Str) : z.cps.toList.length = z.length := by rw [Array.length_toList]; rfl
theorem cut_to (z : Str) (k : Nat) (h : k ≤ z.length) : cutS z none (some (k : Int)) = ⟨(z.cps.toList.take k).toArray⟩ := by
  unfold cutS
  rw [HT.sIx_none, HT.sIx_nat, List.drop_zero, Nat.min_eq_left h, Nat.sub_zero]
theorem cut_from (z : Str) (k : Nat) (h : k ≤ z.length) : cutS z (some (k : Int)) none = ⟨(z.cps.toList.drop k).toArray⟩ := by
  unfold cutS
  rw [HT.sIx_none, HT.sIx_nat, Nat.min_eq_left h]
  rw [List.take_of_length_le (by rw [List.length_drop, len_toList]; exact Nat.le_refl _)]
theorem str_eq {a b : List Nat} : (⟨a.toArray⟩ : Str) = ⟨b.toArray⟩ ↔ a = b := by
  constructor
  · intro h
    have := congrArg (fun z : Str => z.cps.toList) h
    simpa using this
  · rintro rfl; rfl
theorem str_of (z : Str) : (⟨z.cps.toList.toArray⟩ : Str) = z := by rw [Array.toArray_toList]
theorem cat_toList (x y : Str) : (x ++ y).cps.toList = x.cps.toList ++ y.cps.toList := Array.toList_append
theorem amid_eq (x y : Str) (k : Nat) (hk : k ≤ x.length) (hy : y.length = x.length) : amid x y k = ⟨(x.cps.toList.drop k ++ y.cps.toList.take k).toArray⟩ := by
  unfold amid cutS
  rw [HT.sIx_nat, HT.sIx_nat, Ami.append_length, hy, Nat.min_eq_left (by omega), Nat.min_eq_left (by omega), cat_toList]
  rw [List.drop_append_of_le_length (by rw [len_toList]; exact hk), List.take_append]
  rw [List.take_of_length_le (by rw [List.length_drop, len_toList]; omega), List.length_drop, len_toList]
  rw [show k + x.length - k - (x.length - k) = k from by omega]
theorem free_iff {ws : List Str} : freeB ws = true ↔ ∀ x ∈ ws, ∀ y ∈ ws, ∀ k, 1 ≤ k → k < x.length → amid x y k ∉ ws := by
  unfold freeB
  simp only [List.all_eq_true, List.mem_range'_1, Bool.not_eq_true', decide_eq_false_iff_not]
  constructor
  · intro h x hx y hy k h1 h2
    exact h x hx y hy k ⟨h1, by omega⟩
  · intro h x hx y hy k hk
    exact h x hx y hy k hk.1 (by omega)
theorem free_sub {ws vs : List Str} (h : freeB ws = true) (s : ∀ z ∈ vs, z ∈ ws) : freeB vs = true :=
  free_iff.mpr fun x hx y hy k h1 h2 hm => free_iff.mp h x (s x hx) y (s y hy) k h1 h2 (s _ hm)
/-- the program's look is the law's -/
theorem hit_iff {ws : List Str} {n : Nat} (hn : ∀ w ∈ ws, w.length = n) : (∃ w ∈ ws, ∃ a, 1 ≤ a ∧ a < w.length ∧ hitAt ws w a) ↔ freeB ws = false := by
  rw [← Bool.not_eq_true, free_iff]
  constructor
  · rintro ⟨w, hw, a, h1, h2, ⟨u, hu, b, b1, b2, eb⟩, v, hv, c, c1, c2, ec⟩ F
    have lw := hn w hw
    have lu := hn u hu
    have lv := hn v hv
    rw [cut_to w a (by omega), cut_from u b (by omega), str_eq] at eb
    rw [cut_from w a (by omega), cut_to v c (by omega), str_eq] at ec
    have e1 := congrArg List.length eb
    have e2 := congrArg List.length ec
    rw [List.length_take, List.length_drop, len_toList, len_toList] at e1
    rw [List.length_take, List.length_drop, len_toList, len_toList] at e2
    have hb : c = b := by omega
    subst hb
    refine F u hu v hv c b1 b2 ?_
    rw [amid_eq u v c (by omega) (by omega), ← eb, ← ec, List.take_append_drop, str_of]
    exact hw
  · intro F
    refine Classical.byContradiction fun N => F fun x hx y hy k h1 h2 hm => N ?_
    have lx := hn x hx
    have ly := hn y hy
    have e := amid_eq x y k (by omega) (by omega)
    rw [e] at hm
    have lr : (x.cps.toList.drop k).length = n - k := by rw [List.length_drop, len_toList]; omega
    refine ⟨_, hm, n - k, by omega, ?_, ?_, ?_⟩
    · rw [hn _ hm]; omega
    · refine ⟨x, hx, k, h1, h2, ?_⟩
      rw [cut_to _ _ (by rw [hn _ hm]; omega), cut_from x k (by omega), str_eq]
      show ((x.cps.toList.drop k ++ y.cps.toList.take k).toArray.toList).take (n - k) = _
      rw [← lr, List.toList_toArray, List.take_left]
    · refine ⟨y, hy, k, h1, by omega, ?_⟩
      rw [cut_from _ _ (by rw [hn _ hm]; omega), cut_to y k (by omega), str_eq]
      show ((x.cps.toList.drop k ++ y.cps.toList.take k).toArray.toList).drop (n - k) = _
      rw [← lr, List.toList_toArray, List.drop_left]
theorem inV_txt (x : Str) (l : List Str) : inV (V.str x) (l.map V.str) = decide (x ∈ l) := by
  induction l with
  | nil => rfl
  | cons a r ih =>
    show (eqV (V.str a) (V.str x) || inV (V.str x) (r.map V.str)) = _
    rw [ih]
    have e : eqV (V.str a) (V.str x) = decide (x = a) := decide_eq_decide.mpr ⟨Eq.symm, Eq.symm⟩
    rw [e]
    by_cases h : x = a
    · simp [h]
    · simp [h]
theorem flat_txt (l : List Str) : (l.map V.str).all flatV = true := by
  induction l with
  | nil => rfl
  | cons a r ih =>
    rw [List.map_cons, List.all_cons, ih]; rfl
end K49

set_option Elab.async false
set_option linter.all false
set_option maxRecDepth 100000
set_option maxHeartbeats 2000000
namespace K49
open PySem PySem.Spec PyProof.Rows L2 Ami
/-- the places of a row of words: 1 to its length less 1 -/
abbrev iPlaces (K : PySem.W.Frag) : TI := iRng2 (tCons (tC (V.int 1)) (tCons (tCB (fun xs H Q => ∃ x n, xs = [x] ∧ LenV K x H n ∧ Q (V.int (n : Nat)) H) (tCons (tVar 3) tNil)) tNil))
def isCut (key : Str → Nat → Str) (ws : List Str) (z : Str) : Prop := ∃ w ∈ ws, ∃ a, 1 ≤ a ∧ a < w.length ∧ z = key w a
theorem pass {K : PySem.W.Frag} {t : Addr} {ws : List Str} {n : Nat} {v1 v2 v3 v4 : Option V} {H : Hp} {Q : VK} {tk : TE} (key : Str → Nat → Str) (hT : SqT K H t (ws.map V.str)) (hw : ∀ w ∈ ws, w.length = n) (hlen : ws.length ≤ 3000) (hn : n ≤ 100)
    (hk : ∀ (H' : Hp) (Q' : VK) (w : Str) (a : Nat), w.length = n → Q' (.str (key w a)) H' → tk [some (.ref t), v1, v2, some (.str w), some (.int (a : Int))] H' Q')
    (q : ∀ D kvs, H D = none → (∀ z, (valV kvs (.inr z)).isSome = true ↔ isCut key ws z) → Q (.ref D) (upd H D (.dK kvs))) :
    tDc2 (iTup K (tVar 0)) (gName 3) tYes (iPlaces K) (gName 4) tYes tk (tC (V.bl true)) [3, 4] [4] [some (.ref t), v1, v2, v3, v4] H Q := by
  refine ⟨_, rfl, t, rfl, ⟨_, hT⟩, fun D hD => ?_⟩
  have nDt : ∀ o, SqT K (upd H D o) t (ws.map V.str) := fun o => Same.seqT (Same.upd hD) hT
  refine out_tup (K := K) (a := t) (xs := ws.map V.str) (fun i H' => ∃ kvs, H' = upd H D (.dK kvs) ∧ kvs.length ≤ 100 * i ∧ ∀ z, (valV kvs (.inr z)).isSome = true ↔ isCut key (ws.take i) z) ⟨[], rfl, Nat.zero_le _, ?_⟩ (fun i H' _ ⟨kvs, e, _⟩ => e ▸ nDt _) ?_ ?_
  · intro z
    constructor
    · intro h; cases h
    · rintro ⟨w, hw, _⟩
      rw [List.take_zero] at hw
      cases hw
  · rintro i x H1 hx ⟨kvs, rfl, hl, hz⟩
    rw [List.getElem?_map] at hx
    cases hq : ws[i]? with
    | none => rw [hq] at hx; cases hx
    | some w =>
      rw [hq] at hx
      cases hx
      have lw : w.length = n := hw w (List.mem_of_getElem? hq)
      have hi : i < ws.length := (List.getElem?_eq_some_iff.mp hq).1
      have et : ws.take (i + 1) = ws.take i ++ [w] := by rw [List.take_succ, hq]; rfl
      refine ⟨rfl, ?_⟩
      dsimp only [tYes]
      refine iteT ?_
      refine ⟨_, rfl, _, _, rfl, ⟨by rw [lw]; exact Nat.le_trans hn (by decide), rfl⟩, 1, _, rfl, ⟨by decide, by decide, by omega, by omega⟩, ?_⟩
      refine in_range (lo := 1) (n := ((w.length : Int) - 1).toNat) (fun j H' => ∃ kvs, H' = upd H D (.dK kvs) ∧ kvs.length ≤ 100 * i + j ∧ ∀ z, (valV kvs (.inr z)).isSome = true ↔ (isCut key (ws.take i) z ∨ ∃ a, 1 ≤ a ∧ a < 1 + j ∧ z = key w a)) ⟨kvs, rfl, hl, ?_⟩ ?_ ?_
      · intro z
        rw [hz z]
        constructor
        · exact .inl
        · rintro (h | ⟨a, h1, h2, _⟩)
          · exact h
          · omega
      · rintro j H2 hj ⟨kv2, rfl, hl2, hz2⟩
        have ej : (1 : Int) + (j : Int) = ((1 + j : Nat) : Int) := by omega
        rw [ej]
        refine ⟨rfl, ?_⟩
        dsimp only [tYes]
        refine iteT ?_
        refine hk _ _ w (1 + j) lw ?_
        refine ⟨kv2, .inr (key w (1 + j)), rfl, upd_same, Nat.lt_of_le_of_lt (by omega : kv2.length ≤ 400000) (by decide), putK kv2 (.inr (key w (1 + j))) (V.bl true), by rw [upd_upd], ?_, ?_⟩
        · have := length_putK kv2 (.inr (key w (1 + j))) (V.bl true)
          omega
        · intro z
          rw [valV_put]
          by_cases e : (Sum.inr z : Key) = .inr (key w (1 + j))
          · rw [if_pos e]
            constructor
            · intro _
              exact .inr ⟨1 + j, by omega, by omega, Sum.inr.inj e⟩
            · intro _; rfl
          · rw [if_neg e, hz2 z]
            constructor
            · rintro (h | ⟨a, h1, h2, h3⟩)
              · exact .inl h
              · exact .inr ⟨a, h1, by omega, h3⟩
            · rintro (h | ⟨a, h1, h2, h3⟩)
              · exact .inl h
              · by_cases ea : a = 1 + j
                · rw [ea] at h3
                  exact absurd (by rw [h3]) e
                · exact .inr ⟨a, h1, by omega, h3⟩
      · rintro H2 ⟨kv2, rfl, hl2, hz2⟩
        refine ⟨kv2, rfl, by omega, fun z => ?_⟩
        rw [hz2 z, et]
        constructor
        · rintro (⟨w', h1, a, h2, h3, h4⟩ | ⟨a, h1, h2, h3⟩)
          · exact ⟨w', List.mem_append_left _ h1, a, h2, h3, h4⟩
          · exact ⟨w, List.mem_append_right _ List.mem_cons_self, a, h1, by omega, h3⟩
        · rintro ⟨w', h1, a, h2, h3, h4⟩
          rcases List.mem_append.mp h1 with h1 | h1
          · exact .inl ⟨w', h1, a, h2, h3, h4⟩
          · rw [List.mem_singleton] at h1
            subst h1
            exact .inr ⟨a, h2, by omega, h4⟩
  · rintro H1 ⟨kvs, rfl, hl, hz⟩
    rw [List.length_map, List.take_length] at hz
    exact q D kvs hD hz
end K49

set_option Elab.async false
set_option linter.all false
set_option maxRecDepth 100000
set_option maxHeartbeats 2000000
namespace K49
open PySem PySem.Spec PyProof.Rows L2 Ami
theorem call_lenK {X : Cx} {K0 : PySem.W.Frag} (hK : X.K = K0) : CallR X (.builtin "len") (fun xs H Q => ∃ x n, xs = [x] ∧ LenV K0 x H n ∧ Q (V.int (n : Nat)) H) := by
  subst hK
  exact call_len
/-- whether a tuple of words of one length is comma-free -/
def spCF (K : PySem.W.Frag) : Sp := fun vs H Q _ => ∃ (t : Addr) (ws : List Str) (n : Nat), vs = [.ref t] ∧ SqT K H t (ws.map V.str) ∧ (∀ w ∈ ws, w.length = n) ∧ ws.length ≤ 3000 ∧ n ≤ 100 ∧ ∀ H', Same H H' → Q (.bl (freeB ws)) H'
section
variable {P : Program} {w : World} {K : PySem.W.Frag} {mg : Str → Option Value} {base : Heap}
abbrev nCF : List Str := ["words", "begins", "ends", "word", "at"]
theorem scCF : FnScope nCF ["words"] (defScope sCF) := ⟨rfl, rfl, rfl, by decide +kernel, rfl, by decide +kernel, by decide +kernel⟩
theorem ok_cf {f : Addr} {fd : FuncData} (F : Fun K "is_comma_free" "is_comma_free" sCF f fd) (T : Blt mg) : FnOk P w K mg base CX0 1 f fd ["words"] (spCF K) := by
  refine F.ok scCF (fun vs H Q E h => ?_) (fun cdv A outer s H vs Q E hr h => ?_)
  · obtain ⟨t, ws, n, rfl, _⟩ := h
    rfl
  · obtain ⟨t, ws, n, rfl, hT, hw, hlen, hn, k⟩ := h
    have hu := hr.units
    have hu1 := hu_of hr
    refine ⟨_, pss_cons (ps_set (i := 1) scCF.nd rfl (Or.inr rfl) (pe_dc2 (own := [("word", 3), ("at", 4)]) (vs1 := [4]) (g := gName 3) (g1 := gName 4) (tt := tYes) (tt1 := tYes) rfl scCF.nd (pi_tup (pv 0))
          (blkOk_by (own := [("word", 3), ("at", 4)]) (N := nCF) (sc := defScope sCF) (by decide +kernel)) (by decide) (fun _ _ _ _ _ => pg_name (i := 3) scCF.nd rfl (Or.inl rfl)) (fun _ _ _ _ _ => pts_nil)
          (fun _ _ _ _ _ => pi_range2 (by rfl) T.range (pa_cons pe_int (pa_cons (pe_callB (call_lenK (K0 := K) rfl) (by rfl) T.len PySem.boot_len (pa_cons (pv 3) pa_nil)) pa_nil)))
          (fun _ _ _ _ _ => pg_name (i := 4) scCF.nd rfl (Or.inl rfl)) (fun _ _ _ _ _ => pts_nil) (fun _ _ _ _ _ => pe_slice sl_str (pv 3) po_none (po_some (pv 4))) (fun _ _ _ _ _ => pe_bl)))
      (pss_cons (ps_set (i := 2) scCF.nd rfl (Or.inr rfl) (pe_dc2 (own := [("word", 3), ("at", 4)]) (vs1 := [4]) (g := gName 3) (g1 := gName 4) (tt := tYes) (tt1 := tYes) rfl scCF.nd (pi_tup (pv 0))
          (blkOk_by (own := [("word", 3), ("at", 4)]) (N := nCF) (sc := defScope sCF) (by decide +kernel)) (by decide) (fun _ _ _ _ _ => pg_name (i := 3) scCF.nd rfl (Or.inl rfl)) (fun _ _ _ _ _ => pts_nil)
          (fun _ _ _ _ _ => pi_range2 (by rfl) T.range (pa_cons pe_int (pa_cons (pe_callB (call_lenK (K0 := K) rfl) (by rfl) T.len PySem.boot_len (pa_cons (pv 3) pa_nil)) pa_nil)))
          (fun _ _ _ _ _ => pg_name (i := 4) scCF.nd rfl (Or.inl rfl)) (fun _ _ _ _ _ => pts_nil) (fun _ _ _ _ _ => pe_slice sl_str (pv 3) (po_some (pv 4)) po_none) (fun _ _ _ _ _ => pe_bl)))
      (pss_one (ps_ret (pe_not (pe_callB (cr_any rfl) (by rfl) T.any (by rfl) (pa_cons (pe_lc2 (own := [("word", 3), ("at", 4)]) (vs1 := [4]) (g := gName 3) (g1 := gName 4) (tt := tYes) (tt1 := tYes) rfl scCF.nd (pi_tup (pv 0))
          (blkOk_by (own := [("word", 3), ("at", 4)]) (N := nCF) (sc := defScope sCF) (by decide +kernel)) (by decide) (fun _ _ _ _ _ => pg_name (i := 3) scCF.nd rfl (Or.inl rfl)) (fun _ _ _ _ _ => pts_nil)
          (fun _ _ _ _ _ => pi_range2 (by rfl) T.range (pa_cons pe_int (pa_cons (pe_callB (call_lenK (K0 := K) rfl) (by rfl) T.len PySem.boot_len (pa_cons (pv 3) pa_nil)) pa_nil)))
          (fun _ _ _ _ _ => pg_name (i := 4) scCF.nd rfl (Or.inl rfl)) (fun _ _ _ _ _ => pts_nil)
          (fun _ _ _ _ _ => pe_and (pe_cmp (pc_din hu1 (pe_slice sl_str (pv 3) po_none (po_some (pv 4))) (pv 2))) (pe_one (pe_cmp (pc_din hu1 (pe_slice sl_str (pv 3) (po_some (pv 4)) po_none) (pv 1)))))) pa_nil)))))), ?_⟩
    have hs : ∀ w : Str, w.length = n → w.length ≤ sizeLine := fun w e => Nat.le_trans (by omega : w.length ≤ 100) (by decide)
    unfold tSeq tAsg
    refine pass (n := n) (v1 := none) (v2 := none) (v3 := none) (v4 := none) (tk := tSl rSlS (tVar 3) tNoPart (tPart (tVar 4))) (fun w a => cutS w none (some (a : Int))) hT hw hlen hn (fun H' Q' w a lw q => ⟨_, rfl, _, rfl, _, rfl, w, rfl, hs w lw, q⟩) (fun B kb hB zb => ?_)
    have hT1 : SqT K (upd H B (.dK kb)) t (ws.map V.str) := Same.seqT (Same.upd hB) hT
    dsimp only [gName]
    refine pass (n := n) (v1 := some (.ref B)) (v2 := none) (v3 := none) (v4 := none) (tk := tSl rSlS (tVar 3) (tPart (tVar 4)) tNoPart) (fun w a => cutS w (some (a : Int)) none) hT1 hw hlen hn (fun H' Q' w a lw q => ⟨_, rfl, _, rfl, _, rfl, w, rfl, hs w lw, q⟩) (fun D ke hD ze => ?_)
    have nBD : B ≠ D := fun e => by rw [← e, upd_same] at hD; cases hD
    have hB2 : (upd (upd H B (.dK kb)) D (.dK ke)) B = some (.dK kb) := by rw [upd_ne nBD]; exact upd_same
    have hD2 : (upd (upd H B (.dK kb)) D (.dK ke)) D = some (.dK ke) := upd_same
    have hT2 : SqT K (upd (upd H B (.dK kb)) D (.dK ke)) t (ws.map V.str) := Same.seqT (Same.upd hD) hT1
    have sm : Same H (upd (upd H B (.dK kb)) D (.dK ke)) := (Same.upd hB).trans (Same.upd hD)
    revert hB2 hD2 hT2 sm
    generalize upd (upd H B (.dK kb)) D (.dK ke) = H2
    intro hB2 hD2 hT2 sm
    refine ⟨_, rfl, t, rfl, ⟨_, hT2⟩, fun L hL => ?_⟩
    have nB : B ≠ L := ne_of_none hB2 hL
    have nD : D ≠ L := ne_of_none hD2 hL
    refine lout_tup (K := K) (a := t) (xs := ws.map V.str) (fun i H' => ∃ bs : List Bool, H' = upd H2 L (.lst (bs.map V.bl)) ∧ bs.length ≤ 100 * i ∧ (bs.any id = true ↔ ∃ w ∈ ws.take i, ∃ a, 1 ≤ a ∧ a < w.length ∧ hitAt ws w a)) ⟨[], rfl, Nat.zero_le _, ?_⟩
      (fun i H' _ ⟨bs, e, _⟩ => e ▸ Same.seqT (Same.upd hL) hT2) ?_ ?_
    · constructor
      · intro h; cases h
      · rintro ⟨w, hw, _⟩
        rw [List.take_zero] at hw
        cases hw
    · rintro i x H1 hx ⟨bs, rfl, hl, hz⟩
      rw [List.getElem?_map] at hx
      cases hq : ws[i]? with
      | none => rw [hq] at hx; cases hx
      | some w =>
        rw [hq] at hx
        cases hx
        have lw : w.length = n := hw w (List.mem_of_getElem? hq)
        have hi : i < ws.length := (List.getElem?_eq_some_iff.mp hq).1
        have et : ws.take (i + 1) = ws.take i ++ [w] := by rw [List.take_succ, hq]; rfl
        refine ⟨rfl, ?_⟩
        dsimp only [tYes]
        refine iteT ?_
        refine ⟨_, rfl, _, _, rfl, ⟨hs w lw, rfl⟩, 1, _, rfl, ⟨by decide, by decide, by omega, by omega⟩, ?_⟩
        refine lin_range (lo := 1) (n := ((w.length : Int) - 1).toNat) (fun j H' => ∃ bs : List Bool, H' = upd H2 L (.lst (bs.map V.bl)) ∧ bs.length ≤ 100 * i + j ∧ (bs.any id = true ↔ ((∃ w ∈ ws.take i, ∃ a, 1 ≤ a ∧ a < w.length ∧ hitAt ws w a) ∨ ∃ a, 1 ≤ a ∧ a < 1 + j ∧ hitAt ws w a))) ⟨bs, rfl, hl, ?_⟩ ?_ ?_
        · rw [hz]
          constructor
          · exact .inl
          · rintro (h | ⟨a, h1, h2, _⟩)
            · exact h
            · omega
        · rintro j H3 hj ⟨b2, rfl, hl2, hz2⟩
          have ej : (1 : Int) + (j : Int) = ((1 + j : Nat) : Int) := by omega
          rw [ej]
          refine ⟨rfl, ?_⟩
          dsimp only [tYes]
          refine iteT ?_
          have hB3 : (upd H2 L (.lst (b2.map V.bl))) B = some (.dK kb) := by rw [upd_ne nB]; exact hB2
          have hD3 : (upd H2 L (.lst (b2.map V.bl))) D = some (.dK ke) := by rw [upd_ne nD]; exact hD2
          -- the answer is stored
          have fin : ∀ b : Bool, (b = true ↔ hitAt ws w (1 + j)) → app L (fun H' => ∃ bs : List Bool, H' = upd H2 L (.lst (bs.map V.bl)) ∧ bs.length ≤ 100 * i + (j + 1) ∧ (bs.any id = true ↔ ((∃ w ∈ ws.take i, ∃ a, 1 ≤ a ∧ a < w.length ∧ hitAt ws w a) ∨ ∃ a, 1 ≤ a ∧ a < 1 + (j + 1) ∧ hitAt ws w a))) (.bl b) (upd H2 L (.lst (b2.map V.bl))) := fun b hb => by
            refine ⟨_, upd_same, by rw [List.length_map]; exact Nat.lt_of_le_of_lt (by omega : b2.length ≤ 400000) (by decide), b2 ++ [b], by rw [upd_upd, List.map_append]; rfl, by rw [List.length_append, List.length_singleton]; omega, ?_⟩
            rw [List.any_append, Bool.or_eq_true, hz2, List.any_cons, List.any_nil, Bool.or_false, id, hb]
            constructor
            · rintro ((h | ⟨a, h1, h2, h3⟩) | h)
              · exact .inl h
              · exact .inr ⟨a, h1, by omega, h3⟩
              · exact .inr ⟨1 + j, by omega, by omega, h⟩
            · rintro (h | ⟨a, h1, h2, h3⟩)
              · exact .inl (.inl h)
              · by_cases ea : a = 1 + j
                · subst ea; exact .inr h3
                · exact .inl (.inr ⟨a, h1, by omega, h3⟩)
          refine ⟨_, rfl, _, rfl, _, rfl, w, rfl, hs w lw, _, rfl, D, _, rfl, DGet.k (k := Sum.inr (cutS w none (some ((1 + j : Nat) : Int)))) hD3, _, rfl, ?_⟩
          have e1 : (valV ke (Sum.inr (cutS w none (some ((1 + j : Nat) : Int))))).isSome = true ↔ isEnd ws (cutS w none (some ((1 + j : Nat) : Int))) := ze _
          have e2 : (valV kb (Sum.inr (cutS w (some ((1 + j : Nat) : Int)) none))).isSome = true ↔ isBeg ws (cutS w (some ((1 + j : Nat) : Int)) none) := zb _
          cases hv : (valV ke (Sum.inr (cutS w none (some ((1 + j : Nat) : Int))))).isSome with
          | false =>
            refine iteF (fin false ?_)
            rw [hv] at e1
            exact ⟨(fun z => nomatch z), (fun z => absurd (e1.mpr z.1) (fun z => nomatch z))⟩
          | true =>
            refine iteT ?_
            refine ⟨_, rfl, _, rfl, _, rfl, w, rfl, hs w lw, _, rfl, B, _, rfl, DGet.k (k := Sum.inr (cutS w (some ((1 + j : Nat) : Int)) none)) hB3, ?_⟩
            exact fin _ ⟨fun z => ⟨e1.mp hv, e2.mp z⟩, fun z => e2.mpr z.2⟩
        · rintro H3 ⟨b2, rfl, hl2, hz2⟩
          refine ⟨b2, rfl, by omega, ?_⟩
          rw [hz2, et]
          constructor
          · rintro (⟨w', h1, a, h2, h3, h4⟩ | ⟨a, h1, h2, h3⟩)
            · exact ⟨w', List.mem_append_left _ h1, a, h2, h3, h4⟩
            · exact ⟨w, List.mem_append_right _ List.mem_cons_self, a, h1, by omega, h3⟩
          · rintro ⟨w', h1, a, h2, h3, h4⟩
            rcases List.mem_append.mp h1 with h1 | h1
            · exact .inl ⟨w', h1, a, h2, h3, h4⟩
            · rw [List.mem_singleton] at h1
              subst h1
              exact .inr ⟨a, h2, by omega, h4⟩
    · rintro H1 ⟨bs, rfl, hl, hz⟩
      rw [List.length_map, List.take_length] at hz
      refine ⟨L, bs, rfl, SqL.of upd_same, _, rfl, ?_⟩
      have e : (!bs.any id) = freeB ws := by
        have q := hz.trans (hit_iff hw)
        cases hb : bs.any id with
        | true => rw [(q.mp hb)]; rfl
        | false =>
          cases hf : freeB ws with
          | true => rfl
          | false => rw [q.mpr hf] at hb; cases hb
      rw [e]
      exact k _ (sm.trans (Same.upd hL))
end
end K49

set_option Elab.async false
set_option linter.all false
set_option maxRecDepth 100000
set_option maxHeartbeats 2000000
namespace K49.Wd
open PySem PySem.Spec PyProof.Rows L2 Ami
/-- the sizes at which a word is a smaller one, repeated -/
def sizes (z : Str) : List Nat := (List.range' 1 (z.length - 1)).filter fun k => decide (z.length % k = 0)
def powAt (z : Str) (k : Nat) : Bool := decide (repS (cutS z none (some (k : Int))) (z.length / k) = z)
/-- whether a word is a smaller one, repeated -/
def powB (z : Str) : Bool := (sizes z).any (powAt z)
theorem cut_to (z : Str) (k : Nat) (h : k ≤ z.length) : cutS z none (some (k : Int)) = ⟨(z.cps.toList.take k).toArray⟩ := by
  unfold cutS
  rw [HT.sIx_none, HT.sIx_nat, List.drop_zero, Nat.min_eq_left h, Nat.sub_zero]
theorem str_eq_list {z : Str} {l : List Nat} : (⟨l.toArray⟩ : Str) = z ↔ l = z.cps.toList := by
  constructor
  · intro h; rw [← h]
  · intro h; rw [h]
theorem powB_iff (z : Str) : powB z = true ↔ ∃ k, 0 < k ∧ k < z.cps.toList.length ∧ z.cps.toList.length % k = 0 ∧ (List.replicate (z.cps.toList.length / k) (z.cps.toList.take k)).flatten = z.cps.toList := by
  have hl : z.length = z.cps.toList.length := by rw [Array.length_toList]; rfl
  unfold powB sizes
  rw [List.any_eq_true]
  constructor
  · rintro ⟨k, hk, hp⟩
    obtain ⟨m1, m2⟩ := List.mem_filter.mp hk
    rw [List.mem_range'_1] at m1
    have m3 := of_decide_eq_true m2
    refine ⟨k, by omega, by omega, by rw [← hl]; exact m3, ?_⟩
    have := of_decide_eq_true hp
    rw [cut_to z k (by omega)] at this
    rw [← hl]
    exact str_eq_list.mp this
  · rintro ⟨k, h0, h1, hm, h⟩
    refine ⟨k, List.mem_filter.mpr ⟨by rw [List.mem_range'_1]; omega, decide_eq_true (by rw [hl]; exact hm)⟩, decide_eq_true ?_⟩
    rw [cut_to z k (by omega)]
    show (⟨_⟩ : Str) = z
    rw [hl]
    exact str_eq_list.mpr h
/-- a word within its double, the ends left out -/
theorem double_iff (z : Str) (hz : 0 < z.length) : (!(Builtin.Str.occurrences (cutS (z ++ z) (some 1) (some (-1))) z 0 (cutS (z ++ z) (some 1) (some (-1))).length 1).isEmpty) = powB z := by
  have hl : z.length = z.cps.toList.length := by rw [Array.length_toList]; rfl
  have hzz : (z ++ z).cps.toList = z.cps.toList ++ z.cps.toList := by
    show (z.cps ++ z.cps).toList = _
    rw [Array.toList_append]
  have h2 : (z ++ z).length = z.length + z.length := Ami.append_length z z
  have hc : (cutS (z ++ z) (some 1) (some (-1))).cps.toList = ((z.cps.toList ++ z.cps.toList).drop 1).take (z.length + z.length - 2) := by
    unfold cutS
    have e1 : HT.sIx (z ++ z).length 0 (some 1) = 1 := by
      have := HT.sIx_nat (z ++ z).length 0 1
      rw [show ((1 : Nat) : Int) = 1 from rfl] at this
      rw [this, h2]; omega
    have e2 : HT.sIx (z ++ z).length (z ++ z).length (some (-1)) = z.length + z.length - 1 := by
      show (if (-1 : Int) < 0 then ((-1 : Int) + ((z ++ z).length : Int)).toNat else min (-1 : Int).toNat (z ++ z).length) = _
      rw [if_pos (by decide : (-1 : Int) < 0), h2]; omega
    rw [e1, e2, hzz]
    show _ = _
    congr 1
  have hcl : (cutS (z ++ z) (some 1) (some (-1))).length = z.length + z.length - 2 := by
    show (cutS (z ++ z) (some 1) (some (-1))).cps.size = _
    rw [← Array.length_toList, hc, List.length_take, List.length_drop, List.length_append, ← hl]; omega
  rw [Bool.eq_iff_iff, PySem.StrLaws.found_iff, powB_iff, ← K02m.turn_iff_power, hcl]
  have at_ : ∀ i, i + z.length ≤ z.length + z.length - 2 → (PySem.Builtin.Str.subAt (cutS (z ++ z) (some 1) (some (-1))) z i = true ↔ z.cps.toList.drop (i + 1) ++ z.cps.toList.take (i + 1) = z.cps.toList) := by
    intro i hi
    rw [PySem.StrLaws.subAt_eq, hc, beq_iff_eq]
    have e : ((((z.cps.toList ++ z.cps.toList).drop 1).take (z.length + z.length - 2)).drop i).take z.length = z.cps.toList.drop (i + 1) ++ z.cps.toList.take (i + 1) := by
      rw [List.drop_take, List.take_take, List.drop_drop, Nat.min_eq_left (by omega), Nat.add_comm 1 i, List.drop_append_of_le_length (by omega)]
      rw [List.take_append, List.length_drop]
      have e1 : z.length - (z.cps.toList.length - (i + 1)) = i + 1 := by omega
      rw [e1, List.take_of_length_le (by rw [List.length_drop]; omega)]
    rw [e]
  constructor
  · rintro ⟨i, h1, h3⟩
    exact ⟨i + 1, by omega, by omega, (at_ i h1).mp h3⟩
  · rintro ⟨j, h0, h1, h3⟩
    obtain ⟨i, rfl⟩ : ∃ i, j = i + 1 := ⟨j - 1, by omega⟩
    exact ⟨i, by omega, (at_ i (by omega)).mpr h3⟩
end K49.Wd

set_option Elab.async false
set_option linter.all false
set_option maxRecDepth 100000
set_option maxHeartbeats 2000000
namespace K49.Wd
open K02m PySem PySem.Spec PyProof.Rows L2 Ami
theorem take_nx {α : Type} {l : List α} {i : Nat} {c : α} (h : l[i]? = some c) : l.take (i + 1) = l.take i ++ [c] := by
  rw [List.take_succ, h]; rfl
theorem filter_any {α : Type} (l : List α) (p : α → Bool) : (!(l.filter p).isEmpty) = l.any p := by
  induction l with
  | nil => rfl
  | cons a r ih =>
    rw [List.filter_cons, List.any_cons]
    cases h : p a with
    | true => rfl
    | false => simpa using ih
theorem call_lenK {X : Cx} {K0 : PySem.W.Frag} (hK : X.K = K0) : CallR X (.builtin "len") (fun xs H Q => ∃ x n, xs = [x] ∧ LenV K0 x H n ∧ Q (V.int (n : Nat)) H) := by
  subst hK
  exact call_len
/-- whether a word that is not empty is a smaller one, repeated -/
def spRep : Sp := fun vs H Q _ => ∃ z : Str, vs = [.str z] ∧ 0 < z.length ∧ z.length ≤ 5000 ∧ ∀ H', Same H H' → Q (.bl (powB z)) H'
section
variable {P : Program} {w : World} {K : PySem.W.Frag} {mg : Str → Option Value} {base : Heap}
theorem scRep : FnScope ["word"] ["word"] (defScope sRep) := ⟨rfl, rfl, rfl, by decide +kernel, rfl, by decide +kernel, by decide +kernel⟩
theorem ok_rep {f : Addr} {fd : FuncData} (F : Fun K "is_repeated" "is_repeated" sRep f fd) : FnOk P w K mg base CX0 1 f fd ["word"] spRep := by
  refine F.ok scRep (fun vs H Q E h => ?_) (fun cdv A outer s H vs Q E hr h => ?_)
  · obtain ⟨z, rfl, _⟩ := h
    rfl
  · obtain ⟨z, rfl, h0, hl, k⟩ := h
    refine ⟨_, pss_one (ps_ret (pe_and (pe_cmpR op_ne (pv 0) pe_str (nomark _)) (pe_one (pe_cmpR op_in_str (pv 0) (pe_slice sl_str (pe_op op_add_str (pv 0) (pv 0)) (po_some pe_int) (po_some (pe_un un_neg pe_int))) (by rfl))))), ?_⟩
    have big : z.length + z.length ≤ sizeLine := Nat.le_trans (by omega : z.length + z.length ≤ 10000) (by decide)
    have ne : decide (V.str z = V.str (Str.ofString "")) = false := decide_eq_false fun e => by
      have e2 : z = Str.ofString "" := V.str.inj e
      have e3 : (Str.ofString "").length = 0 := by decide +kernel
      rw [e2, e3] at h0
      exact absurd h0 (by decide)
    refine ⟨_, rfl, rfl, _, rfl, ?_⟩
    rw [ne]
    refine iteT ?_
    refine ⟨_, rfl, _, rfl, _, rfl, _, _, rfl, rfl, big, _, rfl, _, rfl, _, rfl, _, rfl, by rw [Ami.append_length]; exact big, _, _, rfl, rfl, ?_⟩
    rw [double_iff z h0]
    exact k _ (Same.refl H)
end
end K49.Wd

set_option linter.all false
/-! the words of a length in their order: the last letter first, as rows of digits below L -/
namespace K02m
/-- the next row of digits, the last digit first -/
def inc (L : Nat) : List Nat → Option (List Nat)
  | [] => none
  | d :: r => if d + 1 = L then (inc L r).map (0 :: ·) else some ((d + 1) :: r)
def W (L : Nat) : Nat → List (List Nat)
  | 0 => [[]]
  | n + 1 => (W L n).flatMap fun r => (List.range L).map (· :: r)
/-- from x on, one behind the other, these; then none -/
def Run (L : Nat) : List Nat → List (List Nat) → Prop
  | x, [] => inc L x = none
  | x, y :: ys => inc L x = some y ∧ Run L y ys
theorem range_tail (d : Nat) : ∀ k, (List.range' d (k + 1)).map (fun x => x) = d :: List.range' (d + 1) k := by
  intro k
  rw [List.map_id', List.range'_succ]
theorem run_block {L : Nat} {r : List Nat} {rest : List (List Nat)} (next : ∀ d, d + 1 = L → Run L (d :: r) rest) : ∀ k d, d + k + 1 = L → Run L (d :: r) ((List.range' (d + 1) k).map (· :: r) ++ rest) := by
  intro k
  induction k with
  | zero => intro d h; exact next d h
  | succ k ih =>
    intro d h
    rw [List.range'_succ, List.map_cons]
    refine ⟨?_, ih (d + 1) (by omega)⟩
    show (if d + 1 = L then _ else some ((d + 1) :: r)) = _
    rw [if_neg (by omega)]
theorem run_up {L : Nat} (hL : 0 < L) : ∀ (ys : List (List Nat)) (x : List Nat), Run L x ys → Run L (0 :: x) ((List.range' 1 (L - 1)).map (· :: x) ++ ys.flatMap fun r => (List.range L).map (· :: r)) := by
  intro ys
  induction ys with
  | nil =>
    intro x h
    refine run_block (rest := []) (fun d hd => ?_) (L - 1) 0 (by omega)
    show (if d + 1 = L then (inc L x).map (0 :: ·) else _) = none
    rw [if_pos hd, show inc L x = none from h]; rfl
  | cons y ys ih =>
    intro x h
    refine run_block (fun d hd => ?_) (L - 1) 0 (by omega)
    rw [List.flatMap_cons]
    obtain ⟨m, hm⟩ : ∃ m, L = m + 1 := ⟨L - 1, by omega⟩
    have e : (List.range L).map (· :: y) = (0 :: y) :: (List.range' 1 (L - 1)).map (· :: y) := by
      rw [hm, List.range_eq_range', List.range'_succ, List.map_cons]; rfl
    rw [e, List.cons_append]
    refine ⟨?_, ih y h.2⟩
    show (if d + 1 = L then (inc L x).map (0 :: ·) else _) = some (0 :: y)
    rw [if_pos hd, h.1]; rfl
theorem w_run {L : Nat} (hL : 0 < L) : ∀ n, ∃ ys, W L n = List.replicate n 0 :: ys ∧ Run L (List.replicate n 0) ys
  | 0 => ⟨[], rfl, rfl⟩
  | n + 1 => by
    obtain ⟨ys, e, h⟩ := w_run hL n
    refine ⟨_, ?_, run_up hL ys _ h⟩
    show (W L n).flatMap _ = _
    rw [e, List.flatMap_cons]
    obtain ⟨m, hm⟩ : ∃ m, L = m + 1 := ⟨L - 1, by omega⟩
    have e2 : (List.range L).map (· :: List.replicate n 0) = (0 :: List.replicate n 0) :: (List.range' 1 (L - 1)).map (· :: List.replicate n 0) := by
      rw [hm, List.range_eq_range', List.range'_succ, List.map_cons]; rfl
    rw [e2, List.cons_append]; rfl
/-- each row has so many digits, each below L -/
theorem w_mem {L : Nat} : ∀ n, ∀ r ∈ W L n, r.length = n ∧ ∀ d ∈ r, d < L
  | 0, r, h => by
    rw [List.mem_singleton.mp h]
    exact ⟨rfl, fun d hd => nomatch hd⟩
  | n + 1, r, h => by
    obtain ⟨q, hq, hr⟩ := List.mem_flatMap.mp h
    obtain ⟨d, hd, rfl⟩ := List.mem_map.mp hr
    obtain ⟨a, b⟩ := w_mem n q hq
    refine ⟨by rw [List.length_cons, a], fun e he => ?_⟩
    rcases List.mem_cons.mp he with rfl | he
    · exact List.mem_range.mp hd
    · exact b e he
theorem w_length (L : Nat) : ∀ n, (W L n).length = L ^ n
  | 0 => rfl
  | n + 1 => by
    show ((W L n).flatMap _).length = _
    rw [List.length_flatMap]
    have e : (W L n).map (fun r => ((List.range L).map (· :: r)).length) = List.replicate (W L n).length L := by
      refine List.eq_replicate_iff.mpr ⟨by rw [List.length_map], fun b hb => ?_⟩
      obtain ⟨r, _, rfl⟩ := List.mem_map.mp hb
      rw [List.length_map, List.length_range]
    rw [e, List.sum_replicate_nat, w_length L n, Nat.pow_succ]
end K02m

set_option Elab.async false
set_option linter.all false
set_option maxRecDepth 100000
set_option maxHeartbeats 2000000
namespace K02m
theorem inc_split {L : Nat} (hL : 0 < L) : ∀ r : List Nat, (∀ d ∈ r, d < L) → (r = List.replicate r.length (L - 1) ∧ inc L r = none) ∨ ∃ k d q, r = List.replicate k (L - 1) ++ d :: q ∧ d + 1 < L ∧ inc L r = some (List.replicate k 0 ++ (d + 1) :: q)
  | [], _ => .inl ⟨rfl, rfl⟩
  | d :: r, h => by
    have hd := h d List.mem_cons_self
    by_cases e : d + 1 = L
    · have ed : d = L - 1 := by omega
      rcases inc_split hL r (fun x hx => h x (List.mem_cons_of_mem _ hx)) with ⟨a, b⟩ | ⟨k, x, q, a, b, c⟩
      · refine .inl ⟨?_, ?_⟩
        · rw [List.length_cons, List.replicate_succ, ← a, ed]
        · show (if d + 1 = L then (inc L r).map (0 :: ·) else _) = none
          rw [if_pos e, b]; rfl
      · refine .inr ⟨k + 1, x, q, ?_, b, ?_⟩
        · rw [List.replicate_succ, List.cons_append, ← a, ed]
        · show (if d + 1 = L then (inc L r).map (0 :: ·) else _) = _
          rw [if_pos e, c, List.replicate_succ]; rfl
    · refine .inr ⟨0, d, r, rfl, by omega, ?_⟩
      show (if d + 1 = L then _ else some ((d + 1) :: r)) = _
      rw [if_neg e]; rfl
end K02m
namespace K49.Wd
open PySem PySem.Spec PyProof.Rows L2 Ami K02m
/-- the word with these digits, the last one first, over these signs -/
def wd (S r : List Nat) : Str := ⟨((r.map fun d => S.getD d 0).reverse).toArray⟩
theorem wd_length (S r : List Nat) : (wd S r).length = r.length := by
  show (wd S r).cps.size = r.length
  unfold wd
  rw [List.size_toArray, List.length_reverse, List.length_map]
theorem rstrip_list (z b : Str) : (Txt.rstripChars z b).cps.toList = (z.cps.toList.reverse.dropWhile b.cps.contains).reverse := by
  have hl : z.length = z.cps.toList.length := by rw [Array.length_toList]; rfl
  unfold Txt.rstripChars
  rw [stripBy_eq]
  have e1 : PySem.stripLo b.cps.contains false z = 0 := rfl
  rw [e1]
  have e2 : PySem.stripHi b.cps.contains true z 0 = z.length - (z.cps.toList.reverse.takeWhile b.cps.contains).length := rfl
  rw [e2]
  have e3 : (PySem.Builtin.Str.strSub z 0 (z.length - (z.cps.toList.reverse.takeWhile b.cps.contains).length)).cps.toList = z.cps.toList.take (z.length - (z.cps.toList.reverse.takeWhile b.cps.contains).length) := by
    unfold PySem.Builtin.Str.strSub
    simp
  rw [e3]
  have e4 : z.cps.toList.reverse.dropWhile b.cps.contains = z.cps.toList.reverse.drop (z.cps.toList.reverse.takeWhile b.cps.contains).length := by
    have q := List.takeWhile_append_dropWhile (p := b.cps.contains) (l := z.cps.toList.reverse)
    have q2 := congrArg (List.drop (z.cps.toList.reverse.takeWhile b.cps.contains).length) q
    rw [List.drop_left] at q2
    exact q2
  rw [e4, List.drop_reverse, List.reverse_reverse, ← hl]
/-- the place of a sign in a text, the first one -/
theorem occ_run (s sub : Str) (hi : Nat) : ∀ (l : List Nat) (free : Nat), (∀ i ∈ l, free ≤ i) →
    (forIn l ((#[] : Array Nat), free) (PySem.StrLaws.occBody s sub hi 1)).run.fst = ((l.find? fun i => decide (i + sub.length ≤ hi) && PySem.Builtin.Str.subAt s sub i).toList).toArray := by
  intro l
  have full : ∀ (l : List Nat) (a fr : Nat), (forIn l ((#[a] : Array Nat), fr) (PySem.StrLaws.occBody s sub hi 1)).run.fst = #[a] := by
    intro l
    induction l with
    | nil => intro a fr; rfl
    | cons j l ih =>
      intro a fr
      rw [List.forIn_cons]
      have e : PySem.StrLaws.occBody s sub hi 1 j ((#[a] : Array Nat), fr) = pure (ForInStep.yield ((#[a] : Array Nat), fr)) := by
        unfold PySem.StrLaws.occBody
        rw [if_neg (by intro h; exact absurd (show (1 : Nat) < 1 from h.1.1.1) (by decide))]
      rw [e]
      exact ih a fr
  induction l with
  | nil => intro free _; rfl
  | cons j l ih =>
    intro free hf
    rw [List.forIn_cons, List.find?_cons]
    by_cases c : j + sub.length ≤ hi ∧ PySem.Builtin.Str.subAt s sub j = true
    · have e : PySem.StrLaws.occBody s sub hi 1 j ((#[] : Array Nat), free) = pure (ForInStep.yield ((#[j] : Array Nat), j + sub.length)) := by
        unfold PySem.StrLaws.occBody
        rw [if_pos ⟨⟨⟨(by show (0 : Nat) < 1; decide), hf j List.mem_cons_self⟩, c.1⟩, c.2⟩]
        rfl
      rw [e]
      have t : (decide (j + sub.length ≤ hi) && PySem.Builtin.Str.subAt s sub j) = true := by rw [decide_eq_true c.1, c.2]; rfl
      rw [t]
      exact full l j _
    · have e : PySem.StrLaws.occBody s sub hi 1 j ((#[] : Array Nat), free) = pure (ForInStep.yield ((#[] : Array Nat), free)) := by
        unfold PySem.StrLaws.occBody
        rw [if_neg (fun h => c ⟨h.1.2, h.2⟩)]
      rw [e]
      have t : (decide (j + sub.length ≤ hi) && PySem.Builtin.Str.subAt s sub j) = false := by
        rw [Bool.eq_false_iff]
        intro h
        rw [Bool.and_eq_true, decide_eq_true_eq] at h
        exact c h
      rw [t]
      exact ih free fun i hi' => hf i (List.mem_cons_of_mem _ hi')
theorem occ_place {S : List Nat} (nd : S.Nodup) {p : Nat} (hp : p < S.length) : PySem.Builtin.Str.occurrences (⟨S.toArray⟩ : Str) ⟨#[S[p]]⟩ 0 (⟨S.toArray⟩ : Str).length 1 = [p] := by
  rw [PySem.StrLaws.occ_eq, occ_run _ _ _ _ 0 (fun _ _ => Nat.zero_le _)]
  have hl : (⟨S.toArray⟩ : Str).length = S.length := by show S.toArray.size = S.length; rw [List.size_toArray]
  have key : (List.range' 0 ((⟨S.toArray⟩ : Str).length + 1 - 0)).find? (fun i => decide (i + (⟨#[S[p]]⟩ : Str).length ≤ (⟨S.toArray⟩ : Str).length) && PySem.Builtin.Str.subAt ⟨S.toArray⟩ ⟨#[S[p]]⟩ i) = some p := by
    have iff : ∀ i, (decide (i + (⟨#[S[p]]⟩ : Str).length ≤ (⟨S.toArray⟩ : Str).length) && PySem.Builtin.Str.subAt ⟨S.toArray⟩ ⟨#[S[p]]⟩ i) = true ↔ i = p := by
      intro i
      rw [Bool.and_eq_true, decide_eq_true_eq, PySem.StrLaws.subAt_one]
      show S.toArray.toList[i]? = some S[p] ↔ i = p
      rw [List.toList_toArray]
      constructor
      · intro h
        obtain ⟨h1, h2⟩ := List.getElem?_eq_some_iff.mp h
        exact (List.pairwise_iff_getElem.mp nd |> fun q => by
          rcases Nat.lt_trichotomy i p with c | c | c
          · exact absurd h2 (q i p h1 hp c)
          · exact c
          · exact absurd h2.symm (q p i hp h1 c))
      · rintro rfl
        exact List.getElem?_eq_getElem hp
    rw [List.find?_eq_some_iff_append]
    refine ⟨(iff p).mpr rfl, List.range' 0 p, List.range' (p + 1) ((⟨S.toArray⟩ : Str).length - p), ?_, fun a ha => ?_⟩
    · rw [hl, Nat.sub_zero]
      have e : S.length + 1 = p + (1 + (S.length - p)) := by omega
      rw [e, ← List.range'_append_1, ← List.range'_append_1 (s := 0 + p) (m := 1)]
      simp
    · have : a < p := by
        rw [List.mem_range'_1] at ha; omega
      rw [Bool.not_eq_true']
      rw [Bool.eq_false_iff]
      intro h
      have := (iff a).mp h
      omega
  rw [key]
  rfl
end K49.Wd

set_option Elab.async false
set_option linter.all false
set_option maxRecDepth 100000
set_option maxHeartbeats 2000000
namespace K49.Wd
open PySem PySem.Spec PyProof.Rows L2 Ami K02m
theorem wd_rev (S r : List Nat) : (wd S r).cps.toList.reverse = r.map fun d => S.getD d 0 := by
  unfold wd
  rw [List.toList_toArray, List.reverse_reverse]
theorem str_ext {x y : Str} (h : x.cps.toList = y.cps.toList) : x = y := by
  obtain ⟨⟨a⟩⟩ := x
  obtain ⟨⟨b⟩⟩ := y
  exact congrArg (fun l => (⟨⟨l⟩⟩ : Str)) h
theorem getD_at {S : List Nat} {d : Nat} (h : d < S.length) : S.getD d 0 = S[d] := by
  rw [List.getD_eq_getElem?_getD, List.getElem?_eq_getElem h]; rfl
theorem drop_rep (p : Nat → Bool) (c : Nat) (hc : p c = true) : ∀ (k : Nat) (l : List Nat), (List.replicate k c ++ l).dropWhile p = l.dropWhile p
  | 0, l => rfl
  | k + 1, l => by
    rw [List.replicate_succ, List.cons_append, List.dropWhile_cons, if_pos hc]
    exact drop_rep p c hc k l
theorem one_has (c x : Nat) : (#[c] : Array Nat).contains x = (x == c) := by
  rw [← Array.contains_toList]
  show List.elem x [c] = (x == c)
  simp [List.elem]
  cases h : x == c <;> simp_all
/-- the word without its greatest signs at the end -/
theorem head_some {S : List Nat} (nd : S.Nodup) (hL : 0 < S.length) {k d : Nat} {q : List Nat} (hd : d + 1 < S.length) :
    Txt.rstripChars (wd S (List.replicate k (S.length - 1) ++ d :: q)) ⟨#[S[S.length - 1]]⟩ = wd S (d :: q) := by
  apply str_ext
  rw [rstrip_list, wd_rev, List.map_append, List.map_replicate, List.map_cons]
  have e1 : S.getD (S.length - 1) 0 = S[S.length - 1] := getD_at (by omega)
  rw [e1, drop_rep _ _ (by rw [one_has]; exact beq_self_eq_true _), List.dropWhile_cons]
  have e2 : (#[S[S.length - 1]] : Array Nat).contains (S.getD d 0) = false := by
    rw [one_has, getD_at (by omega : d < S.length), beq_eq_false_iff_ne]
    exact List.pairwise_iff_getElem.mp nd d (S.length - 1) (by omega) (by omega) (by omega)
  rw [e2, if_neg Bool.false_ne_true]
  unfold wd
  rw [List.toList_toArray, List.map_cons]
theorem head_none {S : List Nat} (hL : 0 < S.length) (k : Nat) : Txt.rstripChars (wd S (List.replicate k (S.length - 1))) ⟨#[S[S.length - 1]]⟩ = ⟨#[]⟩ := by
  apply str_ext
  rw [rstrip_list, wd_rev, List.map_replicate]
  have e1 : S.getD (S.length - 1) 0 = S[S.length - 1] := getD_at (by omega)
  have := drop_rep (#[S[S.length - 1]] : Array Nat).contains S[S.length - 1] (by rw [one_has]; exact beq_self_eq_true _) k []
  rw [List.append_nil] at this
  rw [e1, this]
  rfl
theorem atI_last {α : Type} {l : List α} (h : 0 < l.length) : atI l (-1) = some l[l.length - 1] := by
  unfold atI ixN
  rw [if_neg (by decide), if_pos (by omega)]
  have e : ((-1 : Int) + (l.length : Int)).toNat = l.length - 1 := by omega
  rw [e]
  show l[l.length - 1]? = some l[l.length - 1]
  exact List.getElem?_eq_getElem (by omega)
end K49.Wd

set_option Elab.async false
set_option linter.all false
set_option maxRecDepth 100000
set_option maxHeartbeats 2000000
namespace K49.Wd
open PySem PySem.Spec PyProof.Rows L2 Ami K02m
/-- the next word -/
def spAfter : Sp := fun vs H Q _ => ∃ (S r : List Nat), vs = [.str ⟨S.toArray⟩, .str (wd S r)] ∧ S.Nodup ∧ 2 ≤ S.length ∧ S.length ≤ 10 ∧ (∀ d ∈ r, d < S.length) ∧ r.length ≤ 1000 ∧ (inc S.length r = none → Q .non H) ∧ ∀ r', inc S.length r = some r' → Q (.str (wd S r')) H
section
variable {P : Program} {w : World} {K : PySem.W.Frag} {mg : Str → Option Value} {base : Heap}
theorem scAfter : FnScope ["letters", "word", "head", "higher"] ["letters", "word"] (defScope sAfter) := ⟨rfl, rfl, rfl, by decide +kernel, rfl, by decide +kernel, by decide +kernel⟩
theorem ok_after {f : Addr} {fd : FuncData} (F : Fun K "word_after" "word_after" sAfter f fd) (T : Blt mg) : FnOk P w K mg base CX0 1 f fd ["letters", "word"] spAfter := by
  refine F.ok scAfter (fun vs H Q E h => ?_) (fun cdv A outer s H vs Q E hr h => ?_)
  · obtain ⟨S, r, rfl, _⟩ := h
    rfl
  · obtain ⟨S, r, rfl, nd, h2, h10, hd, hr', kN, kS⟩ := h
    refine ⟨_, pss_cons (ps_set (i := 2) scAfter.nd rfl (Or.inl rfl) (pe_bm PySem.F.plainAttrs_str PySem.F.slot_str_rstrip PySem.F.type_str_rstrip mt_rstripChars (pv 1) (pa_cons (pe_ix ix_seq (pv 0) (pe_un un_neg pe_int) (fun _ _ => rfl)) pa_nil)))
      (pss_cons (ps_if (pt_cmpR op_eq (pv 2) pe_str (nomark _)) (pss_one (ps_ret pe_non)) pss_nil)
      (pss_cons (ps_set (i := 3) scAfter.nd rfl (Or.inl rfl) (pe_ix ix_seq (pv 0) (pe_op op_add (pe_bm PySem.F.plainAttrs_str PySem.F.slot_str_index PySem.F.type_str_index mt_sindex (pv 0) (pa_cons (pe_ix ix_seq (pv 2) (pe_un un_neg pe_int) (fun _ _ => rfl)) pa_nil)) pe_int) (fun _ _ => rfl)))
      (pss_one (ps_ret (pe_op op_add_str (pe_op op_add_str (pe_slice sl_str (pv 2) po_none (po_some (pe_un un_neg pe_int))) (pv 3)) (pe_op op_repS (pe_ix ix_seq (pv 0) pe_int (fun _ _ => rfl)) (pe_op op_sub (pe_callB call_len (by rfl) T.len PySem.boot_len (pa_cons (pv 1) pa_nil)) (pe_callB call_len (by rfl) T.len PySem.boot_len (pa_cons (pv 2) pa_nil))))))))), ?_⟩
    have hSl : (⟨S.toArray⟩ : Str).length = S.length := by show S.toArray.size = S.length; rw [List.size_toArray]
    have hSs : (⟨S.toArray⟩ : Str).length ≤ sizeLine := by rw [hSl]; exact Nat.le_trans h10 (by decide)
    have hws : (wd S r).length ≤ sizeLine := by rw [wd_length]; exact Nat.le_trans hr' (by decide)
    have last : atI (⟨S.toArray⟩ : Str).cps.toList (-1) = some S[S.length - 1] := by
      show atI S.toArray.toList (-1) = _
      rw [List.toList_toArray]
      exact atI_last (by omega)
    refine ⟨_, rfl, rfl, _, rfl, _, rfl, .inr (.inr ⟨⟨S.toArray⟩, -1, _, rfl, rfl, hSs, last, wd S r, ⟨#[S[S.length - 1]]⟩, rfl, rfl, hws, ?_⟩)⟩
    rcases inc_split (L := S.length) (by omega) r hd with ⟨e1, e2⟩ | ⟨k, d, q, e1, e2, e3⟩
    · -- the last word of all
      refine ⟨_, rfl, rfl, _, rfl, ?_⟩
      have e : decide (V.str (Txt.rstripChars (wd S r) ⟨#[S[S.length - 1]]⟩) = V.str (Str.ofString "")) = true := decide_eq_true (by
        rw [e1, head_none (by omega)]
        have e0 : Str.ofString "" = ⟨#[]⟩ := by decide +kernel
        rw [e0])
      rw [e]
      exact iteT (kN e2)
    · have hh := head_some nd (by omega : 0 < S.length) (k := k) (q := q) e2
      rw [← e1] at hh
      refine ⟨_, rfl, rfl, _, rfl, ?_⟩
      rw [hh]
      have e : decide (V.str (wd S (d :: q)) = V.str (Str.ofString "")) = false := decide_eq_false fun h => by
        have h3 := congrArg Str.length (V.str.inj h)
        have e0 : (Str.ofString "").length = 0 := by decide +kernel
        rw [wd_length, e0] at h3
        cases h3
      rw [e]
      refine iteF ?_
      have hq : q.length + 1 + k = r.length := by rw [e1, List.length_append, List.length_replicate, List.length_cons]; omega
      have hdl : (wd S (d :: q)).length ≤ sizeLine := by rw [wd_length, List.length_cons]; exact Nat.le_trans (by omega : q.length + 1 ≤ 1000) (by decide)
      have lastH : atI (wd S (d :: q)).cps.toList (-1) = some S[d] := by
        have el : (wd S (d :: q)).cps.toList = (q.map fun d => S.getD d 0).reverse ++ [S[d]] := by
          unfold wd
          rw [List.toList_toArray, List.map_cons, List.reverse_cons, getD_at (by omega)]
        rw [atI_last (by rw [el]; simp)]
        simp [el]
      refine ⟨_, rfl, _, rfl, rfl, _, rfl, _, rfl, .inr (.inr ⟨wd S (d :: q), -1, _, rfl, rfl, hdl, lastH, _, _, d, [], rfl, rfl, occ_place nd (by omega), _, _, rfl, rfl, ?_⟩)⟩
      have at1 : atI (⟨S.toArray⟩ : Str).cps.toList ((d : Int) + 1) = some S[d + 1] := by
        rw [show (d : Int) + 1 = ((d + 1 : Nat) : Int) from by omega]
        refine atI_nat ?_
        show S.toArray.toList[d + 1]? = _
        rw [List.toList_toArray]
        exact List.getElem?_eq_getElem (by omega)
      have at0 : atI (⟨S.toArray⟩ : Str).cps.toList 0 = some S[0] := by
        refine atI_nat (j := 0) ?_
        show S.toArray.toList[0]? = _
        rw [List.toList_toArray]
        exact List.getElem?_eq_getElem (by omega)
      have cut : cutS (wd S (d :: q)) none (some (-1)) = wd S q := by
        apply str_ext
        unfold cutS
        have e2 : HT.sIx (wd S (d :: q)).length (wd S (d :: q)).length (some (-1)) = q.length := by
          show (if (-1 : Int) < 0 then ((-1 : Int) + ((wd S (d :: q)).length : Int)).toNat else min (-1 : Int).toNat (wd S (d :: q)).length) = _
          rw [if_pos (by decide : (-1 : Int) < 0), wd_length, List.length_cons]; omega
        rw [HT.sIx_none, e2, List.drop_zero, Nat.sub_zero, List.toList_toArray]
        unfold wd
        rw [List.toList_toArray, List.toList_toArray, List.map_cons, List.reverse_cons, List.take_left' (by rw [List.length_reverse, List.length_map])]
      have o1 : ∀ c : Nat, (⟨#[c]⟩ : Str).length = 1 := fun c => rfl
      refine .inr (.inr ⟨_, _, _, rfl, rfl, hSs, at1, ?_⟩)
      refine ⟨_, rfl, _, rfl, _, rfl, wd S (d :: q), rfl, hdl, _, rfl, _, _, rfl, rfl, ?_, ?_⟩
      · rw [cut, wd_length, o1]; exact Nat.le_trans (by omega : q.length + 1 ≤ 1000) (by decide)
      refine ⟨_, rfl, .inr (.inr ⟨_, _, _, rfl, rfl, hSs, at0, _, rfl, _, _, rfl, ⟨hws, rfl⟩, _, rfl, _, _, rfl, ⟨hdl, rfl⟩, _, _, rfl, rfl, ⟨#[S[0]]⟩, k, rfl, ?_, ?_, ?_, _, _, rfl, rfl, ?_, ?_⟩)⟩
      · have : (((wd S r).length : Nat) : Int) - (((wd S (d :: q)).length : Nat) : Int) = (k : Int) := by
          rw [wd_length, wd_length, List.length_cons]; omega
        show V.int ((((wd S r).length : Nat) : Int) - (((wd S (d :: q)).length : Nat) : Int)) = V.int (k : Int)
        rw [this]
      · rw [o1]; exact Nat.le_trans (by omega : k * 1 ≤ 1000) (by decide)
      · exact Nat.lt_of_le_of_lt (by omega : k ≤ 1000) (by decide)
      · rw [Ami.append_length, cut, wd_length, o1, repS_length, o1]; exact Nat.le_trans (by omega : q.length + 1 + k * 1 ≤ 1000) (by decide)
      · have fin : cutS (wd S (d :: q)) none (some (-1)) ++ ⟨#[S[d + 1]]⟩ ++ repS ⟨#[S[0]]⟩ k = wd S (List.replicate k 0 ++ (d + 1) :: q) := by
          apply str_ext
          rw [cut]
          show ((wd S q).cps ++ #[S[d + 1]] ++ ((List.replicate k [S[0]]).flatten).toArray).toList = (wd S (List.replicate k 0 ++ (d + 1) :: q)).cps.toList
          rw [Array.toList_append, Array.toList_append, List.toList_toArray]
          unfold wd
          rw [List.toList_toArray, List.toList_toArray, List.map_append, List.map_replicate, List.map_cons, List.reverse_append, List.reverse_cons, List.reverse_replicate, getD_at (by omega : d + 1 < S.length), getD_at (by omega : 0 < S.length)]
          have fl : ∀ n, (List.replicate n [S[0]]).flatten = List.replicate n S[0] := by
            intro n
            induction n with
            | zero => rfl
            | succ n ih => rw [List.replicate_succ, List.flatten_cons, ih, List.replicate_succ]; rfl
          rw [fl]
        show Q (V.str (cutS (wd S (d :: q)) none (some (-1)) ++ ⟨#[S[d + 1]]⟩ ++ repS ⟨#[S[0]]⟩ k)) _
        rw [fin]
        exact kS _ e3
end
end K49.Wd

set_option Elab.async false
set_option linter.all false
set_option maxRecDepth 100000
set_option maxHeartbeats 2000000
namespace K49.Wd
open PySem PySem.Spec PyProof.Rows L2 Ami
/-- a word turned round by so many letters -/
def rot (z : Str) (k : Nat) : Str := cutS z (some (k : Int)) none ++ cutS z none (some (k : Int))
/-- the word and its turns by at most so many letters -/
def isRot (z : Str) (n : Nat) (x : Str) : Prop := x = z ∨ ∃ k, 1 ≤ k ∧ k ≤ n ∧ x = rot z k
theorem rot_length (z : Str) (k : Nat) (h : k ≤ z.length) : (rot z k).length = z.length := by
  have e : (cutS z (some (k : Int)) none).length = z.length - k := by
    unfold cutS
    rw [HT.sIx_none, HT.sIx_nat, Nat.min_eq_left h]
    show (List.toArray _).size = _
    rw [List.size_toArray, List.length_take, List.length_drop, Array.length_toList]
    show min (z.length - k) (z.length - k) = _
    omega
  have e2 : (cutS z none (some (k : Int))).length = k := by
    unfold cutS
    rw [HT.sIx_none, HT.sIx_nat, Nat.min_eq_left h]
    show (List.toArray _).size = _
    rw [List.size_toArray, List.length_take, List.length_drop, Array.length_toList]
    show min (k - 0) (z.length - 0) = _
    omega
  unfold rot
  rw [Ami.append_length, e, e2]; omega
theorem inV_txt (x : Str) (l : List Str) : inV (V.str x) (l.map V.str) = decide (x ∈ l) := by
  induction l with
  | nil => rfl
  | cons a r ih =>
    show (eqV (V.str a) (V.str x) || inV (V.str x) (r.map V.str)) = _
    rw [ih]
    have e : eqV (V.str a) (V.str x) = decide (x = a) := by
      show decide (a = x) = _
      exact decide_eq_decide.mpr ⟨Eq.symm, Eq.symm⟩
    rw [e]
    by_cases h : x = a
    · simp [h]
    · simp [h]
theorem flat_txt (l : List Str) : (l.map V.str).all flatV = true := by
  induction l with
  | nil => rfl
  | cons a r ih =>
    rw [List.map_cons, List.all_cons, ih]; rfl
/-- all turns of a word, each once, ascending -/
def spTurned : Sp := fun vs H Q _ => ∃ z : Str, vs = [.str z] ∧ z.length ≤ 1000 ∧ ∀ (ys : List Str) (p : Addr) (H' : Hp), ys.Nodup → Up ys → (∀ x, x ∈ ys ↔ isRot z (z.length - 1) x) → ys.length ≤ z.length - 1 + 1 → H p = none →
  Same H H' → H' p = some (.tup (ys.map V.str)) → Q (.ref p) H'
theorem call_lenK2 {X : Cx} {K0 : PySem.W.Frag} (hK : X.K = K0) : CallR X (.builtin "len") (fun xs H Q => ∃ x n, xs = [x] ∧ LenV K0 x H n ∧ Q (V.int (n : Nat)) H) := by
  subst hK
  exact call_len
end K49.Wd

set_option Elab.async false
set_option linter.all false
set_option maxRecDepth 100000
set_option maxHeartbeats 400000
namespace K49.Wd
open PySem PySem.Spec PyProof.Rows L2 Ami
theorem rot_zero (z : Str) : rot z 0 = z := by
  apply str_ext
  unfold rot cutS
  rw [HT.sIx_none, HT.sIx_none, HT.sIx_nat, HT.sIx_nat, Nat.zero_min]
  show (Array.append _ _).toList = _
  simp [Str.length]
  exact List.take_of_length_le (by rw [Array.length_toList]; exact Nat.le_refl _)
theorem isRot_all (z x : Str) : isRot z (z.length - 1) x ↔ ∃ k, k < max 1 z.length ∧ x = rot z k := by
  constructor
  · rintro (h | ⟨k, h1, h2, h3⟩)
    · exact ⟨0, by omega, by rw [rot_zero]; exact h⟩
    · exact ⟨k, by omega, h3⟩
  · rintro ⟨k, h1, h2⟩
    by_cases h : k = 0
    · subst h; exact .inl (by rw [h2, rot_zero])
    · exact .inr ⟨k, by omega, by omega, h2⟩
section
variable {P : Program} {w : World} {K : PySem.W.Frag} {mg : Str → Option Value} {base : Heap}
theorem scTurns : FnScope ["word", "starts", "at"] ["word"] (defScope sTurns) := ⟨rfl, rfl, rfl, by decide +kernel, rfl, by decide +kernel, by decide +kernel⟩
theorem ok_turns {f : Addr} {fd : FuncData} (F : Fun K "turns" "turns" sTurns f fd) (T : Blt mg) : FnOk P w K mg base CX0 1 f fd ["word"] spTurned := by
  refine F.ok scTurns (fun vs H Q E h => ?_) (fun cdv A outer s H vs Q E hr h => ?_)
  · obtain ⟨z, rfl, _⟩ := h
    rfl
  · obtain ⟨z, rfl, hl, k⟩ := h
    have hu := hr.units
    refine ⟨_, pss_cons (ps_set (i := 1) scTurns.nd rfl (Or.inl rfl) (pe_callB (call_max2 rfl) (by rfl) T.max (by decide +kernel) (pa_cons pe_int (pa_cons (pe_callB (call_lenK2 (K0 := K) rfl) (by rfl) T.len PySem.boot_len (pa_cons (pv 0) pa_nil)) pa_nil))))
      (pss_one (ps_ret (pe_callTy call_tuple_of (by rfl) T.tuple (by decide +kernel) (pa_cons (pe_callB (cr_sortedWT rfl) (by rfl) T.sorted (by decide +kernel) (pa_cons
        (pe_st (own := [("at", 2)]) (g := gName 2) rfl scTurns.nd (pi_range1 (by rfl) T.range (pa_cons (pv 1) pa_nil))
          (blkOk_by (own := [("at", 2)]) (N := ["word", "starts", "at"]) (sc := defScope sTurns) (by decide +kernel)) (fun _ _ _ _ _ => pg_name (i := 2) scTurns.nd rfl (Or.inl rfl))
          (fun _ _ _ _ _ => pts_nil) (fun _ _ _ _ _ => pe_op op_add_str (pe_slice sl_str (pv 0) (po_some (pv 2)) po_none) (pe_slice sl_str (pv 0) po_none (po_some (pv 2)))))
        pa_nil)) pa_nil)))), ?_⟩
    have hs : z.length ≤ sizeLine := Nat.le_trans hl (by decide)
    refine ⟨_, rfl, _, _, rfl, ⟨hs, rfl⟩, 1, _, rfl, ?_⟩
    have em : (if ((z.length : Nat) : Int) > 1 then ((z.length : Nat) : Int) else 1) = ((max 1 z.length : Nat) : Int) := by
      by_cases h : ((z.length : Nat) : Int) > 1
      · rw [if_pos h]; omega
      · rw [if_neg h]; omega
    rw [em]
    refine ⟨_, rfl, _, rfl, by omega, by omega, fun D hD => ?_⟩
    have ej : (((max 1 z.length : Nat) : Int)).toNat = max 1 z.length := by omega
    rw [ej]
    refine st_range (lo := 0) (n := max 1 z.length) (fun i H' => ∃ ss : List Str, H' = upd H D (SW w D (ss.map Sum.inr)) ∧ ss.Nodup ∧ (∀ x, x ∈ ss ↔ ∃ k, k < i ∧ x = rot z k) ∧ ss.length ≤ i) ⟨[], rfl, List.nodup_nil, fun x => ⟨(fun h => nomatch h), fun ⟨k, h, _⟩ => absurd h (Nat.not_lt_zero _)⟩, Nat.le_refl _⟩ ?_ ?_
    · rintro i H' hi ⟨ss, rfl, nd, mem, hlen⟩
      have ei : (0 : Int) + (i : Int) = ((i : Nat) : Int) := by omega
      rw [ei]
      have hik : i ≤ z.length := by omega
      have hsum : (cutS z (some (i : Int)) none).length + (cutS z none (some (i : Int))).length ≤ sizeLine := by
        have e : (rot z i).length = (cutS z (some (i : Int)) none).length + (cutS z none (some (i : Int))).length := Ami.append_length _ _
        rw [← e, rot_length z i hik]; exact hs
      refine ⟨rfl, ?_⟩
      refine ⟨_, rfl, _, rfl, _, rfl, z, rfl, hs, _, rfl, _, rfl, _, rfl, z, rfl, hs, _, _, rfl, rfl, hsum, ?_⟩
      refine ⟨rot z i, ss, rfl, upd_same, Nat.lt_of_le_of_lt (by omega : ss.length + 1 ≤ 1001) (by decide), ins (rot z i) ss, upd_upd, ins_nodup nd, fun x => ?_, Nat.le_trans ins_len (by omega)⟩
      rw [mem_ins, mem]
      constructor
      · rintro (⟨k, h1, h2⟩ | h)
        · exact ⟨k, by omega, h2⟩
        · exact ⟨i, by omega, h⟩
      · rintro ⟨k, h1, h2⟩
        by_cases hk : k < i
        · exact .inl ⟨k, hk, h2⟩
        · have : k = i := by omega
          exact .inr (this ▸ h2)
    · rintro H' ⟨ss, rfl, nd, mem, hlen⟩
      refine ⟨D, ss, rfl, upd_same, fun ys p pm up hp => ?_⟩
      refine ⟨p, _, rfl, .inl ⟨SqL.of upd_same, fun l hl2 => ?_⟩⟩
      have nl : p ≠ l := ne_of_none upd_same hl2
      have hl1 : upd H D (SW w D (ss.map Sum.inr)) l = none := by rw [upd_ne (Ne.symm nl)] at hl2; exact hl2
      have nl2 : D ≠ l := ne_of_none upd_same hl1
      have hl0 : H l = none := by rw [upd_ne (Ne.symm nl2)] at hl1; exact hl1
      exact k ys l _ (pm.nodup_iff.mpr nd) up (fun x => by rw [pm.mem_iff, mem, isRot_all]) (by rw [pm.length_eq]; omega) hl0
        (((Same.upd hD).trans (Same.upd hp)).trans (Same.upd hl2)) upd_same
end
end K49.Wd

set_option Elab.async false
set_option linter.all false
set_option maxRecDepth 100000
set_option maxHeartbeats 400000
namespace K49.Wd
open PySem PySem.Spec PyProof.Rows L2 Ami
/-- the turns of a word, each once, ascending -/
structure TurnsOf (z : Str) (ys : List Str) : Prop where
  nd : ys.Nodup
  up : Up ys
  mem : ∀ x, x ∈ ys ↔ isRot z (z.length - 1) x
theorem TurnsOf.uniq {z : Str} {xs ys : List Str} (a : TurnsOf z xs) (b : TurnsOf z ys) : xs = ys :=
  up_uniq a.up b.up ((List.perm_ext_iff_of_nodup a.nd b.nd).mpr fun x => by rw [a.mem, b.mem])
theorem TurnsOf.cons {z : Str} {ys : List Str} (a : TurnsOf z ys) : ∃ y r, ys = y :: r := by
  have m := (a.mem z).mpr (.inl rfl)
  cases ys with
  | nil => exact absurd m (fun h => nomatch h)
  | cons y r => exact ⟨y, r, rfl⟩
theorem rot_list (z : Str) (k : Nat) (h : k ≤ z.length) : (rot z k).cps.toList = z.cps.toList.drop k ++ z.cps.toList.take k := by
  unfold rot cutS
  rw [HT.sIx_none, HT.sIx_none, HT.sIx_nat, HT.sIx_nat, Nat.min_eq_left h]
  show (Array.append _ _).toList = _
  have e : z.cps.toList.length = z.length := Array.length_toList
  simp [Str.length]
  rw [← Array.length_toList, ← List.length_drop, List.take_length]
theorem rot_rot (z : Str) (i j : Nat) (hi : i < z.length) (hj : j < z.length) : rot (rot z i) j = rot z (if i + j < z.length then i + j else i + j - z.length) := by
  have e : z.cps.toList.length = z.length := Array.length_toList
  apply str_ext
  rw [rot_list (rot z i) j (by rw [rot_length z i (by omega)]; omega), rot_list z i (by omega)]
  have ld : (z.cps.toList.drop i).length = z.length - i := by rw [List.length_drop, e]
  by_cases h : i + j < z.length
  · rw [if_pos h, rot_list z _ (by omega)]
    rw [List.drop_append_of_le_length (by rw [ld]; omega), List.take_append_of_le_length (by rw [ld]; omega), List.drop_drop, List.append_assoc]
    congr 1
    rw [List.take_add]
  · rw [if_neg h, rot_list z _ (by omega)]
    have e2 : j = (z.cps.toList.drop i).length + (i + j - z.length) := by rw [ld]; omega
    generalize hm : i + j - z.length = m at *
    have hmi : m ≤ i := by omega
    have d : (z.cps.toList.drop i ++ z.cps.toList.take i).drop j = (z.cps.toList.take i).drop m := by
      rw [List.drop_append, List.drop_of_length_le (by omega), List.nil_append]
      congr 1; omega
    have t : (z.cps.toList.drop i ++ z.cps.toList.take i).take j = z.cps.toList.drop i ++ z.cps.toList.take m := by
      rw [List.take_append, List.take_of_length_le (by omega), List.take_take]
      congr 2; omega
    have w : z.cps.toList.drop m = (z.cps.toList.take i).drop m ++ z.cps.toList.drop i := by
      conv => lhs; rw [← List.take_append_drop i z.cps.toList]
      rw [List.drop_append_of_le_length (by rw [List.length_take, e]; omega)]
    rw [d, t, w, List.append_assoc]
/-- the turns of a turn are the turns -/
theorem isRot_rot (z : Str) (i : Nat) (hi : i < max 1 z.length) (x : Str) : isRot (rot z i) ((rot z i).length - 1) x ↔ isRot z (z.length - 1) x := by
  have hil : i ≤ z.length := by omega
  rw [isRot_all, isRot_all, rot_length z i hil]
  by_cases h0 : z.length = 0
  · have hi0 : i = 0 := by omega
    subst hi0
    rw [rot_zero]
  · have hz : i < z.length := by omega
    have hmx : max 1 z.length = z.length := by omega
    rw [hmx]
    constructor
    · rintro ⟨j, hj, rfl⟩
      refine ⟨_, ?_, rot_rot z i j hz hj⟩
      by_cases h : i + j < z.length
      · rw [if_pos h]; exact h
      · rw [if_neg h]; omega
    · rintro ⟨k, hk, rfl⟩
      by_cases h : i ≤ k
      · refine ⟨k - i, by omega, ?_⟩
        rw [rot_rot z i (k - i) hz (by omega), if_pos (by omega)]
        congr 1; omega
      · refine ⟨k + z.length - i, by omega, ?_⟩
        rw [rot_rot z i (k + z.length - i) hz (by omega), if_neg (by omega)]
        congr 1; omega
theorem TurnsOf.turn {z x : Str} {ys : List Str} (a : TurnsOf z ys) (h : x ∈ ys) : TurnsOf x ys := by
  obtain ⟨k, hk, rfl⟩ := (isRot_all z x).mp ((a.mem x).mp h)
  exact ⟨a.nd, a.up, fun y => by rw [a.mem, isRot_rot z k hk]⟩
theorem TurnsOf.len {z x : Str} {ys : List Str} (a : TurnsOf z ys) (h : x ∈ ys) : x.length = z.length := by
  obtain ⟨k, hk, rfl⟩ := (isRot_all z x).mp ((a.mem x).mp h)
  exact rot_length z k (by omega)
end K49.Wd

set_option Elab.async false
set_option linter.all false
set_option maxRecDepth 100000
set_option maxHeartbeats 400000
namespace K49.Wd
open PySem PySem.Spec PyProof.Rows L2 Ami
theorem mkTurns {z : Str} {ys : List Str} (a : ys.Nodup) (b : Up ys) (c : ∀ x, x ∈ ys ↔ isRot z (z.length - 1) x) : TurnsOf z ys := ⟨a, b, c⟩
/-- the first of the turns -/
def spLeast : Sp := fun vs H Q _ => ∃ z : Str, vs = [.str z] ∧ z.length ≤ 1000 ∧ ∀ (y : Str) (r : List Str) (H' : Hp), TurnsOf z (y :: r) → Same H H' → Q (.str y) H'
section
variable {P : Program} {w : World} {K : PySem.W.Frag} {mg : Str → Option Value} {base : Heap}
theorem scLeast : FnScope ["word"] ["word"] (defScope sLeast) := ⟨rfl, rfl, rfl, by decide +kernel, rfl, by decide +kernel, by decide +kernel⟩
theorem ok_least {f f1 : Addr} {fd fd1 : FuncData} (F : Fun K "least_turn" "least_turn" sLeast f fd) (T : Blt mg) (D1 : DefAt K mg "turns" sTurns ["word"] f1 fd1) : FnOk P w K mg base CX0 2 f fd ["word"] spLeast := by
  have G1 : FnOk P w K mg base CX0 1 f1 fd1 ["word"] spTurned := ok_turns D1.F T
  refine F.ok scLeast (fun vs H Q E h => ?_) (fun cdv A outer s H vs Q E hr h => ?_)
  · obtain ⟨z, rfl, _⟩ := h
    rfl
  · obtain ⟨z, rfl, hl, k⟩ := h
    refine ⟨_, pss_one (ps_ret (pe_ix ix_seq (pc D1 G1 hr (pa_cons (pv 0) pa_nil)) pe_int (fun _ _ => rfl))), ?_⟩
    refine ⟨_, rfl, z, rfl, hl, fun ys p H' nd up mem hlen hp sm ht => ?_⟩
    obtain ⟨y, r, rfl⟩ := (mkTurns nd up mem).cons
    refine .inr (.inl ⟨p, _, 0, _, rfl, rfl, SqT.of ht, atI_nat (j := 0) rfl, ?_⟩)
    exact k y r H' (mkTurns nd up mem) sm
end
end K49.Wd

set_option Elab.async false
set_option linter.all false
set_option maxRecDepth 100000
set_option maxHeartbeats 2000000
namespace K49.Wd
open PySem PySem.Spec PyProof.Rows L2 Ami K02m
/-- the words of a length, in order -/
def wordsOf (S : List Nat) (n : Nat) : List V := (W S.length n).map fun r => V.str (wd S r)
def spWith : SpQ := fun vs _ xs => ∃ (S : List Nat) (n : Nat), vs = [.str ⟨S.toArray⟩, .int n] ∧ S.Nodup ∧ 2 ≤ S.length ∧ S.length ≤ 10 ∧ n ≤ 1000 ∧ xs = wordsOf S n
theorem run_at {L : Nat} : ∀ (ys : List (List Nat)) (x : List Nat), Run L x ys → ∀ (k : Nat) (r : List Nat), (x :: ys)[k]? = some r → inc L r = (x :: ys)[k + 1]?
  | [], x, h, 0, r, e => by
    cases e
    exact h
  | [], x, h, k + 1, r, e => by simp at e
  | y :: ys, x, h, 0, r, e => by
    cases e
    exact h.1
  | y :: ys, x, h, k + 1, r, e => run_at ys y h.2 k r e
theorem w_at {L n k : Nat} (hL : 0 < L) {r : List Nat} (h : (W L n)[k]? = some r) : inc L r = (W L n)[k + 1]? := by
  obtain ⟨ys, e, hr⟩ := w_run hL n
  rw [e] at h ⊢
  exact run_at ys _ hr k r h
theorem w_first {L n : Nat} (hL : 0 < L) : (W L n)[0]? = some (List.replicate n 0) := by
  obtain ⟨ys, e, _⟩ := w_run hL n
  rw [e]; rfl
/-- the word at the head of the k-th turn -/
def headV (S : List Nat) (n k : Nat) : V := match (W S.length n)[k]? with
  | some r => .str (wd S r)
  | none => .non
def headS (S : List Nat) (n k : Nat) : L2.St := [some (.str ⟨S.toArray⟩), some (.int n), some (headV S n k)]
def slotsS (S : List Nat) (n : Nat) : Nat → L2.St
  | 0 => [some (.str ⟨S.toArray⟩), some (.int n), none]
  | k + 1 => headS S n k
theorem words_length (S : List Nat) (n : Nat) : (wordsOf S n).length = (W S.length n).length := by unfold wordsOf; rw [List.length_map]
theorem first_word {S : List Nat} {c : Nat} (hc : S[0]? = some c) (n : Nat) : repS ⟨#[c]⟩ n = wd S (List.replicate n 0) := by
  apply str_ext
  show (List.replicate n [c]).flatten = (((List.replicate n 0).map fun d => S.getD d 0).reverse)
  have e : S.getD 0 0 = c := by rw [List.getD_eq_getElem?_getD, hc]; rfl
  rw [List.map_replicate, e, List.reverse_replicate]
  induction n with
  | zero => rfl
  | succ n ih => rw [List.replicate_succ, List.flatten_cons, ih, List.replicate_succ]; rfl
section
variable {P : Program} {w : World} {K : PySem.W.Frag} {mg : Str → Option Value} {base : Heap}
theorem scWith : GScope ["letters", "length", "word"] ["letters", "length"] (defScope sWith) := ⟨rfl, rfl, rfl, by decide +kernel, rfl, by decide +kernel, by decide +kernel⟩
theorem ok_with {f f1 : Addr} {fd fd1 : FuncData} (F : Fun K "words_with" "words_with" sWith f fd) (T : Blt mg) (D1 : DefAt K mg "word_after" sAfter ["letters", "word"] f1 fd1) : QFn P w K mg base 1 f fd ["letters", "length"] spWith := by
  have G1 : FnOk P w K mg base CX0 1 f1 fd1 ["letters", "word"] spAfter := ok_after D1.F T
  refine Ami.Fun.okQ F scWith (fun _ => rfl) (fun vs H xs h => ?_) fun cdv vs xs H h => ?_
  · obtain ⟨S, n, rfl, _⟩ := h
    rfl
  · obtain ⟨S, n, rfl, nd, h2, h10, hn, rfl⟩ := h
    have hlen := words_length S n
    refine ⟨slotsS S n, rfl, fun j _ => by cases j <;> rfl, fun A outer s s₀ hr s1 hI => ?_⟩
    have hx : ∀ e s', ¬ (gcx P w K mg base ["letters", "length", "word"] "words_with" (defScope sWith) f cdv A outer s s₀ H).xe e s' := fun e s' z => z
    have g : Gq (gcx P w K mg base ["letters", "length", "word"] "words_with" (defScope sWith) f cdv A outer s s₀ H) A (.func (defBody sWith) (envOfC "words_with" (defScope sWith) s.heap.objs.size f cdv)) [] id := ⟨GenW.over_func, rfl, rfl, rfl⟩
    have hS0 : S[0]? = some S[0] := List.getElem?_eq_getElem (by omega)
    have hl : (⟨S.toArray⟩ : Str).length = S.length := List.size_toArray
    have hw0 : headV S n 0 = .str (repS ⟨#[S[0]]⟩ n) := by
      unfold headV
      rw [w_first (by omega), first_word hS0]
    have ones : n * (⟨#[S[0]]⟩ : Str).length ≤ sizeLine := by
      show n * 1 ≤ sizeLine
      exact Nat.le_trans (by omega : n * 1 ≤ 1000) (by decide)
    have first : ∀ z hh H', Inv (atS (gcx P w K mg base ["letters", "length", "word"] "words_with" (defScope sWith) f cdv A outer s s₀ H) z hh) [] (slotsS S n 0) H' s1 →
        wpAny (model P w) (A.deeper (envOfC "words_with" (defScope sWith) s.heap.objs.size f cdv)) (exec ((defBody sWith).getD 0 (.Pass ⟨0, 0, 0, 0⟩)) (envOfC "words_with" (defScope sWith) s.heap.objs.size f cdv))
          (fun f' s' => s'.gens = s1.gens ∧ SP (atS (gcx P w K mg base ["letters", "length", "word"] "words_with" (defScope sWith) f cdv A outer s s₀ H) z hh) [] (onlyAt (headS S n 0) H') f' s') (fun _ _ => False) s1 := fun z hh H' I' => by
      refine psg_set (X := atS (gcx P w K mg base ["letters", "length", "word"] "words_with" (defScope sWith) f cdv A outer s s₀ H) z hh) (i := 2) (x := "word") scWith.nd rfl rfl
        (peg_rep (peg_sign (peg_var (i := 0) (x := "letters") rfl (.inl rfl)) peg_int (fun _ _ => rfl)) (peg_var (i := 1) (x := "length") rfl (.inl rfl))) (by rfl) I' ?_
      refine ⟨_, rfl, _, 0, S[0], rfl, rfl, by rw [hl]; exact Nat.le_trans h10 (by decide), ?_, _, rfl, _, n, rfl, rfl, ones, by omega, ?_, rfl⟩
      · show atI S.toArray.toList 0 = some S[0]
        rw [List.toList_toArray]
        exact atI_nat (j := 0) hS0
      · show [some (V.str ⟨S.toArray⟩), some (V.int n), some (V.str (repS ⟨#[S[0]]⟩ n))] = headS S n 0
        unfold headS
        rw [hw0]
    show Seg _ _ _ _ _ _ _ ((execs ((defBody sWith).getD 0 (.Pass ⟨0, 0, 0, 0⟩) :: [(defBody sWith).getD 1 (.Pass ⟨0, 0, 0, 0⟩)]) _).wrap _ _ _ _) _ _
    refine seg_execs_cons (seg_psgQ (D := fun _ _ => True) (X := gcx P w K mg base ["letters", "length", "word"] "words_with" (defScope sWith) f cdv A outer s s₀ H) first hx g hI WayA.refl fun s2 g2 w2 => ?_)
    refine seg_execs_cons ?_
    have hr1 : Room 1 (gcx P w K mg base ["letters", "length", "word"] "words_with" (defScope sWith) f cdv A outer s s₀ H).A := hr
    refine seg_loopQ (X := gcx P w K mg base ["letters", "length", "word"] "words_with" (defScope sWith) f cdv A outer s s₀ H) (xs := wordsOf S n) (σs := slotsS S n) (head := headS S n)
      (fun _ _ => ptg_notNone (i := 2) (x := "word") rfl (.inl rfl)) (fun _ _ => peg_var (i := 2) (x := "word") rfl (.inl rfl)) (fun _ _ => ps_set (i := 2) scWith.nd rfl (Or.inl rfl) (pc D1 G1 hr1 (pa_cons (pv 0) (pa_cons (pv 2) pa_nil)))) hx rfl rfl (fun k _ => rfl)
      (fun k H' hk => ?_) (fun H' => ?_) (fun k x H' hk => ?_) (fun k H' hk => ?_) g (fun s3 s4 w4 => ?_) (wordsOf S n).length 0 s1 s2 (Nat.add_zero _) hI w2 fun _ => g2
    · obtain ⟨r, hr⟩ : ∃ r, (W S.length n)[k]? = some r := ⟨_, List.getElem?_eq_getElem (by omega)⟩
      refine ⟨headV S n k, rfl, ?_, rfl⟩
      unfold headV
      rw [hr]; rfl
    · refine ⟨headV S n (wordsOf S n).length, rfl, ?_, rfl⟩
      unfold headV
      rw [List.getElem?_eq_none (by omega)]; rfl
    · refine ⟨headV S n k, rfl, ?_, rfl⟩
      unfold wordsOf at hk
      rw [List.getElem?_map] at hk
      unfold headV
      cases hr : (W S.length n)[k]? with
      | none => rw [hr] at hk; cases hk
      | some r => rw [hr] at hk; exact Option.some.inj hk
    · obtain ⟨r, hr⟩ : ∃ r, (W S.length n)[k]? = some r := ⟨_, List.getElem?_eq_getElem (by omega)⟩
      obtain ⟨m1, m2⟩ := w_mem n r (List.mem_of_getElem? hr)
      have e : headV S n k = .str (wd S r) := by unfold headV; rw [hr]
      have nx := w_at (by omega) hr
      refine ⟨_, rfl, _, rfl, S, r, by rw [e]; rfl, nd, h2, h10, m2, by omega, fun hN => ⟨?_, rfl⟩, fun r' hS => ⟨?_, rfl⟩⟩
      · show [some (V.str ⟨S.toArray⟩), some (V.int n), some V.non] = headS S n (k + 1)
        have : headV S n (k + 1) = .non := by unfold headV; rw [← nx, hN]
        unfold headS
        rw [this]
      · show [some (V.str ⟨S.toArray⟩), some (V.int n), some (V.str (wd S r'))] = headS S n (k + 1)
        have : headV S n (k + 1) = .str (wd S r') := by unfold headV; rw [← nx, hS]
        unfold headS
        rw [this]
    · exact seg_execs_nil (seg_end (.ok (.ret .none)) ⟨rfl, .inl rfl, _, w4⟩)
end
end K49.Wd

set_option Elab.async false
set_option linter.all false
set_option maxRecDepth 100000
set_option maxHeartbeats 4000000
namespace K49
open PySem PySem.Spec PyProof.Rows L2 Ami
abbrev tV (p : List Nat) : V := V.str ⟨p.toArray⟩
theorem tV_inj {p q : List Nat} : tV p = tV q ↔ p = q := by
  constructor
  · intro h
    have h1 := V.str.inj h
    have h2 : p.toArray = q.toArray := by injection h1
    exact congrArg Array.toList h2
  · intro h; rw [h]
theorem tV_eq (p q : List Nat) : decide (tV p = tV q) = decide (p = q) := decide_eq_decide.mpr tV_inj
theorem same_put {H H' : Hp} {a : Addr} {o : HO} (h : Same H H') (ha : H a = none) : Same H (upd H' a o) := fun b u e => by
  rw [upd_ne (ne_of_none e ha)]; exact h b u e
/-- one part more -/
def stp (f : List Nat) (x : List (List Nat) × List Nat) (p : List Nat) : List (List Nat) × List Nat := if p = f then (x.1, x.2 ++ p) else (x.1 ++ [x.2 ++ p], [])
def run (f : List Nat) (ps : List (List Nat)) : List (List Nat) × List Nat := ps.foldl (stp f) ([], [])
theorem run_snoc (f : List Nat) (ps : List (List Nat)) (p : List Nat) : run f (ps ++ [p]) = stp f (run f ps) p := by
  unfold run
  rw [List.foldl_append]; rfl
theorem fold_flat (f : List Nat) : ∀ (ps : List (List Nat)) (x : List (List Nat) × List Nat), (ps.foldl (stp f) x).1.flatten ++ (ps.foldl (stp f) x).2 = x.1.flatten ++ x.2 ++ ps.flatten
  | [], x => by
    show x.1.flatten ++ x.2 = x.1.flatten ++ x.2 ++ []
    rw [List.append_nil]
  | p :: ps, x => by
    rw [List.foldl_cons, fold_flat f ps (stp f x p), List.flatten_cons]
    unfold stp
    by_cases e : p = f
    · rw [if_pos e]
      show x.1.flatten ++ (x.2 ++ p) ++ ps.flatten = _
      simp only [List.append_assoc]
    · rw [if_neg e]
      show (x.1 ++ [x.2 ++ p]).flatten ++ [] ++ ps.flatten = _
      simp only [List.append_assoc, List.flatten_append, List.flatten_cons, List.flatten_nil, List.append_nil, List.nil_append]
theorem fold_len (f : List Nat) : ∀ (ps : List (List Nat)) (x : List (List Nat) × List Nat), (ps.foldl (stp f) x).1.length = x.1.length + (ps.filter fun p => decide (p ≠ f)).length
  | [], x => rfl
  | p :: ps, x => by
    rw [List.foldl_cons, fold_len f ps (stp f x p), List.filter_cons]
    unfold stp
    by_cases e : p = f
    · rw [if_pos e, if_neg (by rw [decide_eq_true_eq]; exact fun z => z e)]
    · rw [if_neg e, if_pos (decide_eq_true e), List.length_cons, List.length_append, List.length_singleton]; omega
theorem run_flat (f : List Nat) (ps : List (List Nat)) : (run f ps).1.flatten ++ (run f ps).2 = ps.flatten := by
  have := fold_flat f ps ([], [])
  exact this
theorem run_len (f : List Nat) (ps : List (List Nat)) : (run f ps).1.length = (ps.filter fun p => decide (p ≠ f)).length := by
  have := fold_len f ps ([], [])
  rw [List.length_nil, Nat.zero_add] at this
  exact this
theorem run_end (f : List Nat) (ps : List (List Nat)) (p : List Nat) (h : p ≠ f) : (run f (ps ++ [p])).2 = [] := by
  rw [run_snoc]
  unfold stp
  rw [if_neg h]
theorem atI_last {α : Type} {l : List α} (h : 0 < l.length) : atI l (-1) = some l[l.length - 1] := by
  unfold atI ixN
  rw [if_neg (by decide), if_pos (by omega)]
  have e : ((-1 : Int) + (l.length : Int)).toNat = l.length - 1 := by omega
  rw [e]
  show l[l.length - 1]? = some l[l.length - 1]
  exact List.getElem?_eq_getElem (by omega)
/-- the part ahead of a place, round the ring -/
def ahd (ps : List (List Nat)) (s : Nat) : List Nat := ps.getD (if s = 0 then ps.length - 1 else s - 1) []
theorem ahd_at {ps : List (List Nat)} {s : Nat} (h : 0 < ps.length) (hs : s ≤ ps.length) : atI (ps.map tV) ((s : Int) - 1) = some (tV (ahd ps s)) := by
  unfold ahd
  by_cases e : s = 0
  · subst e
    have hl : 0 < (ps.map tV).length := by rw [List.length_map]; exact h
    rw [if_pos rfl]
    refine (atI_last hl).trans ?_
    rw [List.getElem_map, List.getD_eq_getElem?_getD, List.getElem?_eq_getElem (by omega)]
    simp only [List.length_map]; rfl
  · rw [if_neg e, show (s : Int) - 1 = ((s - 1 : Nat) : Int) from by omega]
    refine atI_nat ?_
    rw [List.getElem?_map, List.getElem?_eq_getElem (by omega), List.getD_eq_getElem?_getD, List.getElem?_eq_getElem (by omega)]; rfl
/-- the ring begins behind another part -/
theorem rot_last {ps : List (List Nat)} {s : Nat} (h : 0 < ps.length) (hs : s ≤ ps.length) : ∃ qs, ps.drop s ++ ps.take s = qs ++ [ahd ps s] := by
  unfold ahd
  by_cases e : s = 0
  · subst e
    rw [if_pos rfl, List.drop_zero, List.take_zero, List.append_nil, List.getD_eq_getElem?_getD, List.getElem?_eq_getElem (by omega)]
    refine ⟨ps.take (ps.length - 1), ?_⟩
    have := List.take_add_one (l := ps) (i := ps.length - 1)
    rw [List.getElem?_eq_getElem (by omega), show ps.length - 1 + 1 = ps.length from by omega, List.take_length] at this
    exact this
  · rw [if_neg e, List.getD_eq_getElem?_getD, List.getElem?_eq_getElem (by omega)]
    refine ⟨ps.drop s ++ ps.take (s - 1), ?_⟩
    have := List.take_add_one (l := ps) (i := s - 1)
    rw [List.getElem?_eq_getElem (by omega), show s - 1 + 1 = s from by omega] at this
    rw [this, List.append_assoc]; rfl
theorem fold_jn (f : List Nat) : ∀ (ps : List (List Nat)) (x : List (List Nat) × List Nat), (ps.foldl (stp f) x).1 = x.1 ++ Mk.jn f x.2 ps
  | [], x => (List.append_nil _).symm
  | p :: ps, x => by
    rw [List.foldl_cons, fold_jn f ps (stp f x p)]
    unfold stp
    by_cases e : p = f
    · rw [if_pos e, e, Mk.jn_x]
    · rw [if_neg e, Mk.jn_o e]
      show (x.1 ++ [x.2 ++ p]) ++ _ = _
      rw [List.append_assoc]; rfl
theorem run_jn (f : List Nat) (ps : List (List Nat)) : (run f ps).1 = Mk.jn f [] ps := by
  have := fold_jn f ps ([], [])
  rw [List.nil_append] at this
  exact this
/-- what joining the parts gives -/
def JoinOf (f : List Nat) (ps jo : List (List Nat)) : Prop := ∃ R, Mk.Rot ps R ∧ Mk.Ends f R ∧ jo = Mk.jn f [] R
theorem flat_take {ps : List (List Nat)} {i : Nat} {p : List Nat} (h : ps[i]? = some p) (f : List Nat) : (run f (ps.take i)).2.length + p.length ≤ ps.flatten.length := by
  have e1 := congrArg List.length (run_flat f (ps.take i))
  rw [List.length_append] at e1
  have e2 : ps = ps.take i ++ p :: ps.drop (i + 1) := by
    obtain ⟨hi, hp⟩ := List.getElem?_eq_some_iff.mp h
    rw [← hp, ← List.drop_eq_getElem_cons hi, List.take_append_drop]
  have e3 := congrArg (fun l => l.flatten.length) e2
  simp only [List.flatten_append, List.flatten_cons, List.length_append] at e3
  omega
theorem rot_len (ps : List (List Nat)) (s : Nat) : (ps.drop s ++ ps.take s).flatten.length = ps.flatten.length := by
  have e := congrArg (fun l => l.flatten.length) (List.take_append_drop s ps)
  simp only [List.flatten_append, List.length_append] at e ⊢
  omega
theorem rot_filter (ps : List (List Nat)) (s : Nat) (q : List Nat → Bool) : ((ps.drop s ++ ps.take s).filter q).length = (ps.filter q).length := by
  have e := congrArg (fun l => (l.filter q).length) (List.take_append_drop s ps)
  simp only [List.filter_append, List.length_append] at e ⊢
  omega
def spJoin (K : PySem.W.Frag) : Sp := fun vs H Q _ => ∃ (L : Addr) (ps : List (List Nat)) (f : List Nat), vs = [.ref L, tV f] ∧ H L = some (.lst (ps.map tV)) ∧ (∃ p ∈ ps, p ≠ f) ∧ ps.length ≤ 1000 ∧ ps.flatten.length ≤ 100000 ∧
  ∀ (H' : Hp) (R : Addr) (jo : List (List Nat)), Same H H' → H' R = some (.lst (jo.map tV)) → JoinOf f ps jo → Q (.ref R) H'
section
variable {P : Program} {w : World} {K : PySem.W.Frag} {mg : Str → Option Value} {base : Heap}
abbrev nJoin : List Str := ["parts", "first", "start", "joined", "ahead", "part"]
theorem scJoin : FnScope nJoin ["parts", "first"] (defScope sJoin) := ⟨rfl, rfl, rfl, by decide +kernel, rfl, by decide +kernel, by decide +kernel⟩
theorem ok_join {f : Addr} {fd : FuncData} (F : Fun K "parts_joined" "parts_joined" sJoin f fd) : FnOk P w K mg base CX0 1 f fd ["parts", "first"] (spJoin K) := by
  refine F.ok scJoin (fun vs H Q E h => ?_) (fun cdv A' outer s H vs Q E hr h => ?_)
  · obtain ⟨L, ps, f, rfl, _⟩ := h
    rfl
  · obtain ⟨L, ps, f, rfl, eL, hne, hl, hfl, k⟩ := h
    have hun := hr.units
    refine ⟨_, pss_cons (ps_set (i := 2) scJoin.nd rfl (Or.inl rfl) pe_int)
      (pss_cons (ps_while PassesOwn.never (pt_cmpR op_eq (pe_ix ix_seq (pv 0) (pe_op op_sub (pv 2) pe_int) (fun _ _ => rfl)) (pv 1) (nomark _))
        (pss_one (ps_aug (i := 2) scJoin.nd rfl (Or.inl rfl) pe_int ip_add)))
      (pss_cons (ps_set (i := 3) scJoin.nd rfl (Or.inl rfl) (pe_lst pa_nil))
      (pss_cons (ps_set (i := 4) scJoin.nd rfl (Or.inl rfl) pe_str)
      (pss_cons (ps_for PassesOwn.never rfl (pi_list (pe_op op_cat (pe_slice sl_list (pv 0) (po_some (pv 2)) po_none) (pe_slice sl_list (pv 0) po_none (po_some (pv 2))))) (pg_name (i := 5) scJoin.nd rfl (Or.inl rfl))
        (pss_cons (ps_set (i := 4) scJoin.nd rfl (Or.inl rfl) (pe_op op_add_str (pv 4) (pv 5)))
        (pss_one (ps_if (pt_cmpR op_ne (pv 5) (pv 1) (nomark _))
          (pss_cons (ps_expr (pe_bm PySem.F.plainAttrs_list PySem.F.slot_list_append PySem.F.type_list_append mt_append (pv 3) (pa_cons (pv 4) pa_nil)))
          (pss_one (ps_set (i := 4) scJoin.nd rfl (Or.inl rfl) pe_str))) pss_nil))))
      (pss_one (ps_ret (pv 3))))))), ?_⟩
    obtain ⟨p0, hp0, hpf⟩ := hne
    have hl0 : 0 < ps.length := List.length_pos_of_mem hp0
    obtain ⟨i0, hi0, ei0⟩ := List.getElem_of_mem hp0
    refine ⟨fun m σ H' => ∃ (s : Nat), σ = [some (.ref L), some (tV f), some (.int s), none, none, none] ∧ H' = H ∧ s ≤ i0 + 1 ∧ m = i0 + 1 - s, ⟨_, 0, rfl, rfl, Nat.zero_le _, rfl⟩, ?_⟩
    rintro m σ H1 ⟨s, rfl, rfl, hs, rfl⟩
    refine ⟨_, rfl, _, rfl, _, _, rfl, rfl, .inl ⟨L, _, (s : Int) - 1, _, rfl, rfl, SqL.of eL, ahd_at hl0 (by omega), _, rfl, rfl, _, rfl, ?_⟩⟩
    rw [tV_eq]
    cases hd : decide (ahd ps s = f) with
    | true =>
      have hd' := of_decide_eq_true hd
      have hs2 : s ≤ i0 := by
        refine Nat.le_of_not_lt fun z => hpf ?_
        rw [← hd', ← ei0]
        unfold ahd
        rw [if_neg (by omega), show s - 1 = i0 from by omega, List.getD_eq_getElem?_getD, List.getElem?_eq_getElem hi0]; rfl
      refine iteT ⟨fun σ H' => σ = [some (.ref L), some (tV f), some (.int (s + 1 : Nat)), none, none, none] ∧ H' = H1, fun σ' H' ⟨e1, e2⟩ => ⟨i0 + 1 - (s + 1), by omega, s + 1, e1, e2, by omega, rfl⟩, ?_⟩
      exact ⟨_, rfl, _, _, rfl, rfl, rfl, rfl⟩
    | false =>
      have hd' := of_decide_eq_false hd
      refine iteF ?_
      refine ⟨Nat.zero_le _, fun R hR => ?_⟩
      have eL1 := Same.upd (o := .lst []) hR _ _ eL
      have sR : Same H1 (upd H1 R (.lst [])) := Same.upd hR
      have eR1 : (upd H1 R (.lst [])) R = some (.lst []) := upd_same
      revert eL1 sR eR1
      generalize upd H1 R (.lst []) = H2
      intro eL1 sR eR1
      refine ⟨_, rfl, _, rfl, _, rfl, L, _, rfl, SqL.of eL1, fun q1 hq1 => ?_⟩
      have eL2 := Same.upd (o := .lst (cutV (ps.map tV) (some (s : Int)) none)) hq1 _ _ eL1
      refine ⟨_, rfl, _, rfl, _, rfl, L, _, rfl, SqL.of eL2, fun q2 hq2 => ?_⟩
      have hsl : s ≤ ps.length := by omega
      have ec1 : cutV (ps.map tV) (some (s : Int)) none = (ps.drop s).map tV := by
        unfold cutV
        rw [HT.sIx_none, HT.sIx_nat, List.length_map, Nat.min_eq_left hsl, ← List.map_drop, List.take_of_length_le (by rw [List.length_map, List.length_drop]; exact Nat.le_refl _)]
      have ec2 : cutV (ps.map tV) none (some (s : Int)) = (ps.take s).map tV := by
        unfold cutV
        rw [HT.sIx_none, HT.sIx_nat, List.length_map, Nat.min_eq_left hsl, List.drop_zero, Nat.sub_zero, ← List.map_take]
      have n12 : q1 ≠ q2 := ne_of_none upd_same hq2
      refine ⟨q1, q2, _, _, rfl, rfl, Same.upd hq2 _ _ upd_same, upd_same, ?_, fun p hp => ?_⟩
      · rw [ec1, ec2, List.length_map, List.length_map, List.length_drop, List.length_take]
        exact Nat.le_trans (by omega : _ ≤ 2000) (by decide)
      rw [ec1, ec2, ← List.map_append]
      have s3 : Same H1 (upd (upd (upd H2 q1 (.lst ((ps.drop s).map tV))) q2 (.lst ((ps.take s).map tV))) p (.lst ((ps.drop s ++ ps.take s).map tV))) := by
        rw [ec1, ec2] at hp
        rw [ec1] at hq2
        exact ((sR.trans (Same.upd hq1)).trans (Same.upd hq2)).trans (Same.upd hp)
      have eR3 : (upd (upd (upd H2 q1 (.lst ((ps.drop s).map tV))) q2 (.lst ((ps.take s).map tV))) p (.lst ((ps.drop s ++ ps.take s).map tV))) R = some (.lst []) := by
        rw [ec1, ec2] at hp
        rw [ec1] at hq2
        exact Same.upd hp _ _ (Same.upd hq2 _ _ (Same.upd hq1 _ _ eR1))
      have ep3 : (upd (upd (upd H2 q1 (.lst ((ps.drop s).map tV))) q2 (.lst ((ps.take s).map tV))) p (.lst ((ps.drop s ++ ps.take s).map tV))) p = some (.lst ((ps.drop s ++ ps.take s).map tV)) := upd_same
      have nRp : R ≠ p := by
        rw [ec1, ec2] at hp
        rw [ec1] at hq2
        exact ne_of_none (Same.upd hq2 _ _ (Same.upd hq1 _ _ eR1)) hp
      revert s3 eR3 ep3
      generalize upd (upd (upd H2 q1 (.lst ((ps.drop s).map tV))) q2 (.lst ((ps.take s).map tV))) p (.lst ((ps.drop s ++ ps.take s).map tV)) = H3
      intro s3 eR3 ep3
      obtain ⟨qs, hqs⟩ := rot_last hl0 hsl
      have hrl := rot_len ps s
      have hrf := rot_filter ps s (fun p => decide (p ≠ f))
      have hrn : (ps.drop s ++ ps.take s).length ≤ 2000 := by
        rw [List.length_append, List.length_drop, List.length_take]; omega
      have hgo : Mk.Rot ps (ps.drop s ++ ps.take s) := ⟨_, _, (List.take_append_drop s ps).symm, rfl⟩
      revert hrl hrf hqs ep3 hrn hgo
      generalize ps.drop s ++ ps.take s = rot
      intro ep3 hqs hrl hrf hrn hgo
      refine ⟨p, rfl, ⟨_, SqL.of ep3⟩, ?_⟩
      refine for_list (K := K) (a := p) (xs := rot.map tV) (fun i σ H' => ∃ v5, σ = [some (.ref L), some (tV f), some (.int s), some (.ref R), some (tV (run f (rot.take i)).2), v5] ∧ Same H1 H' ∧ H' R = some (.lst ((run f (rot.take i)).1.map tV)) ∧ H' p = some (.lst (rot.map tV)))
        ⟨_, rfl, s3, eR3, ep3⟩ (fun i σ H' _ ⟨_, _, _, _, e⟩ => SqL.of e) ?_ ?_
      · rintro i x σ H4 hx ⟨v5, rfl, s4, eR4, ep4⟩
        obtain ⟨pt, hpt, rfl⟩ : ∃ pt, rot[i]? = some pt ∧ x = tV pt := by
          rw [List.getElem?_map] at hx
          cases e : rot[i]? with
          | none => rw [e] at hx; exact nomatch hx
          | some pt => rw [e] at hx; cases hx; exact ⟨pt, rfl, rfl⟩
        have hil : i < rot.length := (List.getElem?_eq_some_iff.mp hpt).1
        have etk : rot.take (i + 1) = rot.take i ++ [pt] := by rw [List.take_add_one, hpt]; rfl
        have hft := flat_take hpt f
        have hrun := run_snoc f (rot.take i) pt
        have hrl2 : (run f (rot.take i)).1.length ≤ i := by
          rw [run_len]
          refine Nat.le_trans (List.length_filter_le _ _) ?_
          rw [List.length_take]; exact Nat.min_le_left _ _
        rw [etk, hrun]
        have eapp : (⟨(run f (rot.take i)).2.toArray⟩ : Str) ++ ⟨pt.toArray⟩ = ⟨((run f (rot.take i)).2 ++ pt).toArray⟩ := by
          show (⟨(run f (rot.take i)).2.toArray ++ pt.toArray⟩ : Str) = _
          rw [List.append_toArray]
        refine ⟨_, rfl, _, rfl, _, _, rfl, rfl, ?_, ?_⟩
        · show (run f (rot.take i)).2.toArray.size + pt.toArray.size ≤ sizeLine
          rw [List.size_toArray, List.size_toArray]
          exact Nat.le_trans (by omega : _ ≤ 100000) (by decide)
        rw [eapp]
        refine ⟨_, rfl, _, rfl, rfl, _, rfl, ?_⟩
        rw [tV_eq]
        unfold stp
        by_cases e : pt = f
        · rw [decide_eq_true e, if_pos e]
          exact iteF ⟨_, rfl, s4, eR4, ep4⟩
        · rw [decide_eq_false e, if_neg e]
          refine iteT ?_
          refine ⟨_, rfl, .inl ⟨rfl, _, SqL.of eR4⟩, _, rfl, R, _, _, rfl, rfl, eR4, ?_, ?_⟩
          · rw [List.length_map]
            exact Nat.lt_of_le_of_lt (by omega : _ ≤ 2000) (by decide)
          refine ⟨_, rfl, same_put s4 hR, ?_, by rw [upd_ne (Ne.symm nRp)]; exact ep4⟩
          rw [upd_same]
          show _ = some (HO.lst (List.map _ (_ ++ _)))
          rw [List.map_append]; rfl
      · rintro σ H4 ⟨v5, rfl, s4, eR4, ep4⟩
        rw [List.length_map, List.take_length] at eR4
        refine ⟨_, rfl, k H4 R (run f rot).1 s4 eR4 ?_⟩
        exact ⟨rot, hgo, ⟨qs, _, hqs, hd'⟩, run_jn f rot⟩
end
end K49

set_option Elab.async false
set_option linter.all false
set_option maxRecDepth 100000
set_option maxHeartbeats 4000000
namespace K49
open PySem PySem.Spec PyProof.Rows L2 Ami
inductive All2 {α β : Type} (R : α → β → Prop) : List α → List β → Prop
  | nil : All2 R [] []
  | cons {a : α} {b : β} {as : List α} {bs : List β} : R a b → All2 R as bs → All2 R (a :: as) (b :: bs)
section
variable {α β : Type} {R S : α → β → Prop}
theorem All2.imp (h : ∀ a b, R a b → S a b) : ∀ {as : List α} {bs : List β}, All2 R as bs → All2 S as bs
  | _, _, .nil => .nil
  | _, _, .cons r t => .cons (h _ _ r) (t.imp h)
theorem All2.app {cs : List α} {ds : List β} : ∀ {as : List α} {bs : List β}, All2 R as bs → All2 R cs ds → All2 R (as ++ cs) (bs ++ ds)
  | _, _, .nil, k => k
  | _, _, .cons r t, k => .cons r (t.app k)
theorem All2.len : ∀ {as : List α} {bs : List β}, All2 R as bs → as.length = bs.length
  | _, _, .nil => rfl
  | _, _, .cons _ t => congrArg (· + 1) t.len
theorem All2.at : ∀ {as : List α} {bs : List β} {i : Nat} {a : α}, All2 R as bs → as[i]? = some a → ∃ b, bs[i]? = some b ∧ R a b
  | _, _, _, _, .nil, e => nomatch e
  | _, _, 0, _, .cons r t, e => by cases e; exact ⟨_, rfl, r⟩
  | _, _, i + 1, _, .cons r t, e => t.at (i := i) e
theorem All2.at' : ∀ {as : List α} {bs : List β} {i : Nat} {b : β}, All2 R as bs → bs[i]? = some b → ∃ a, as[i]? = some a ∧ R a b
  | _, _, _, _, .nil, e => nomatch e
  | _, _, 0, _, .cons r t, e => by cases e; exact ⟨_, rfl, r⟩
  | _, _, i + 1, _, .cons r t, e => t.at' (i := i) e
theorem All2.take (n : Nat) : ∀ {as : List α} {bs : List β}, All2 R as bs → All2 R (as.take n) (bs.take n)
  | _, _, .nil => by rw [List.take_nil, List.take_nil]; exact .nil
  | _, _, .cons r t => by
    cases n with
    | zero => exact .nil
    | succ n => exact .cons r (t.take n)
theorem All2.rep {as : List α} {bs : List β} (h : All2 R as bs) : ∀ n, All2 R (List.replicate n as).flatten (List.replicate n bs).flatten
  | 0 => .nil
  | n + 1 => by
    rw [List.replicate_succ, List.replicate_succ, List.flatten_cons, List.flatten_cons]
    exact h.app (h.rep n)
end
/-- all but lists and dicts stays -/
def NL (H H' : Hp) : Prop := ∀ a u, H a = some u → (∀ xs, u ≠ .lst xs) → (∀ kvs, u ≠ .dK kvs) → H' a = some u
theorem NL.refl (H : Hp) : NL H H := fun _ _ e _ _ => e
theorem NL.trans {H H' H'' : Hp} (h : NL H H') (k : NL H' H'') : NL H H'' := fun a u e h1 h2 => k a u (h a u e h1 h2) h1 h2
theorem NL.same {H H' : Hp} (h : Same H H') : NL H H' := fun a u e _ _ => h a u e
theorem NL.new {H : Hp} {a : Addr} {o : HO} (h : H a = none) : NL H (upd H a o) := NL.same (Same.upd h)
theorem NL.lst {H : Hp} {a : Addr} {o : HO} {xs : List V} (h : H a = some (.lst xs)) : NL H (upd H a o) := fun b u e h1 _ => by
  by_cases hb : b = a
  · subst hb
    rw [h] at e
    cases e
    exact absurd rfl (h1 _)
  · rw [upd_ne hb]; exact e
theorem NL.dK {H : Hp} {a : Addr} {o : HO} {xs : List (Key × V)} (h : H a = some (.dK xs)) : NL H (upd H a o) := fun b u e _ h2 => by
  by_cases hb : b = a
  · subst hb
    rw [h] at e
    cases e
    exact absurd rfl (h2 _)
  · rw [upd_ne hb]; exact e
theorem NL.tup {K : PySem.W.Frag} {H H' : Hp} (h : NL H H') {a : Addr} {xs : List V} (s : SqT K H a xs) : SqT K H' a xs := by
  rcases s with s | s
  · rcases s with s | ⟨o, s⟩
    · exact .inl (.inl (h _ _ s (fun _ z => nomatch z) (fun _ z => nomatch z)))
    · exact .inl (.inr ⟨o, h _ _ s (fun _ z => nomatch z) (fun _ z => nomatch z)⟩)
  · exact .inr s

theorem odd_part : ∀ {ps : List (List Nat)}, ps.flatten.length % 2 = 1 → ∃ p ∈ ps, p.length % 2 = 1
  | [], h => nomatch h
  | p :: ps, h => by
    by_cases e : p.length % 2 = 1
    · exact ⟨p, List.mem_cons_self, e⟩
    · rw [List.flatten_cons, List.length_append] at h
      obtain ⟨q, hq, eq⟩ := odd_part (ps := ps) (by omega)
      exact ⟨q, List.mem_cons_of_mem _ hq, eq⟩
theorem all_pw {f : List Nat} : ∀ {ps : List (List Nat)}, (∀ p ∈ ps, p = f) → ps.flatten = Rng.pw f ps.length
  | [], _ => rfl
  | p :: ps, h => by
    rw [List.flatten_cons, h p List.mem_cons_self, all_pw fun q hq => h q (List.mem_cons_of_mem _ hq), List.length_cons, Rng.pw_succ]
/-- a turn of a word -/
def Turn (w v : List Nat) : Prop := ∃ j, v = Rng.it Rng.r1 j w
theorem Turn.refl (w : List Nat) : Turn w w := ⟨0, rfl⟩
theorem Turn.trans {u v w : List Nat} (a : Turn u v) (b : Turn v w) : Turn u w := by
  obtain ⟨i, rfl⟩ := a
  obtain ⟨j, rfl⟩ := b
  exact ⟨i + j, (Rng.it_add _ _ _ _).symm⟩
theorem Turn.cut (a b : List Nat) : Turn (a ++ b) (b ++ a) := ⟨a.length, by rw [Rng.it_r1 _ _ (by rw [List.length_append]; omega), List.drop_left, List.take_left]⟩
theorem Turn.len {w v : List Nat} (h : Turn w v) : v.length = w.length := by
  obtain ⟨j, rfl⟩ := h
  induction j with
  | zero => rfl
  | succ j ih => rw [Rng.it_succ, Rng.r1_len, ih]
theorem join_turn {f : List Nat} {ps jo : List (List Nat)} (h : JoinOf f ps jo) : Turn ps.flatten jo.flatten := by
  obtain ⟨R, ⟨a, b, rfl, rfl⟩, he, rfl⟩ := h
  rw [Mk.jn_ends_flat he, List.nil_append, List.flatten_append, List.flatten_append]
  exact Turn.cut _ _
/-- the turns of a word that is no power are no powers: not all parts are alike -/
theorem unlike {w : List Nat} (hw : Rng.Prim w) {ps : List (List Nat)} (ht : Turn w ps.flatten) (h2 : 2 ≤ ps.length) (f : List Nat) : ∃ p ∈ ps, p ≠ f := by
  refine Classical.byContradiction fun hn => ?_
  have hall : ∀ p ∈ ps, p = f := fun p hp => Classical.byContradiction fun z => hn ⟨p, hp, z⟩
  have e := all_pw hall
  obtain ⟨j, hj⟩ := ht
  obtain ⟨n, hn2⟩ : ∃ n, ps.length = n + 1 := ⟨ps.length - 1, by omega⟩
  rw [hn2] at e
  have t := Rng.pw_turn f n
  rw [← e, hj, ← Rng.it_add, Nat.add_comm, Rng.it_add] at t
  have t2 := Rng.it_r1_inj j t
  have l1 := Turn.len ⟨j, hj⟩
  have l2 := congrArg List.length e
  rw [Rng.pw_length] at l2
  have lw : 0 < w.length := List.length_pos_iff.mpr hw.1
  have f0 : 0 < f.length := by
    refine Nat.pos_of_ne_zero fun z => ?_
    rw [z, Nat.mul_zero] at l2
    omega
  have p1 := Rng.per_least f0 t2
  have p2 := hw.2
  have p3 : 1 * f.length < (n + 1) * f.length := Nat.mul_lt_mul_of_pos_right (by omega) f0
  omega
end K49

set_option Elab.async false
set_option linter.all false
set_option maxRecDepth 100000
set_option maxHeartbeats 4000000
namespace K49
open PySem PySem.Spec PyProof.Rows L2 Ami
/-- a part with its length ahead -/
def Sized (K : PySem.W.Frag) (H : Hp) (v : V) (p : List Nat) : Prop := ∃ q, v = .ref q ∧ SqT K H q [.int (p.length : Nat), tV p]
theorem Sized.keep {K : PySem.W.Frag} {H H' : Hp} (h : NL H H') {v : V} {p : List Nat} : Sized K H v p → Sized K H' v p := fun ⟨q, e, s⟩ => ⟨q, e, h.tup s⟩
def dS (p : List Nat) : PyData := .tuple [.int (p.length : Nat), .str ⟨p.toArray⟩]
theorem dp_sized {K : PySem.W.Frag} {H : Hp} : ∀ {vs : List V} {ps : List (List Nat)}, All2 (Sized K H) vs ps → DpAll K H vs (ps.map dS)
  | _, _, .nil => .nil
  | _, _, .cons ⟨_, rfl, s⟩ t => .cons (.tup s (.cons (.int _) (.cons (.str _) .nil))) (dp_sized t)
theorem depth_sized : ∀ ps : List (List Nat), PyData.depthAll (ps.map dS) ≤ 1
  | [] => by decide
  | p :: ps => by
    show max (dS p).depth (PyData.depthAll (ps.map dS)) ≤ 1
    have := depth_sized ps
    have e : (dS p).depth = 1 := rfl
    omega
theorem alike_sized (ps : List (List Nat)) : PySem.W.AlikeAll (ps.map dS) := by
  refine ⟨fun x hx y hy => ?_, fun x hx => ?_⟩
  · obtain ⟨p, _, rfl⟩ := List.mem_map.mp hx
    obtain ⟨q, _, rfl⟩ := List.mem_map.mp hy
    rfl
  · obtain ⟨p, _, rfl⟩ := List.mem_map.mp hx
    exact fun z => nomatch z
def oddP (p : List Nat) : Bool := decide (p.length % 2 = 1)
theorem ones_flat : ∀ w : List Nat, (w.map fun c => [c]).flatten = w
  | [] => rfl
  | c :: w => by rw [List.map_cons, List.flatten_cons, ones_flat w]; rfl
def spMark : Sp := fun vs H Q _ => ∃ (x : V) (w : List Nat), vs = [x, tV w] ∧ Rng.Prim w ∧ w.length % 2 = 1 ∧ w.length ≤ 1000 ∧ ∀ H' v, Same H H' → Turn w v → Mk.Mark v → Q (tV v) H'
section
variable {P : Program} {w : World} {K : PySem.W.Frag} {mg : Str → Option Value} {base : Heap}
abbrev nMark : List Str := ["letters", "word", "parts", "part"]
theorem scMark : FnScope nMark ["letters", "word"] (defScope sMark) := ⟨rfl, rfl, rfl, by decide +kernel, rfl, by decide +kernel, by decide +kernel⟩
theorem ok_mark {f f1 : Addr} {fd fd1 : FuncData} (F : Fun K "marked_turn" "marked_turn" sMark f fd) (T : Blt mg) (D1 : DefAt K mg "parts_joined" sJoin ["parts", "first"] f1 fd1) : FnOk P w K mg base CX0 2 f fd ["letters", "word"] spMark := by
  have G1 : FnOk P w K mg base CX0 1 f1 fd1 ["parts", "first"] (spJoin K) := ok_join D1.F
  refine F.ok scMark (fun vs H Q E h => ?_) (fun cdv A' outer s H vs Q E hr h => ?_)
  · obtain ⟨x, w, rfl, _⟩ := h
    rfl
  · obtain ⟨x, w, rfl, hw, hodd, hl, k⟩ := h
    have hr1 := hr.mono (j := 1) (by decide)
    have hun := hr.units
    refine ⟨_, pss_cons (ps_set (i := 2) scMark.nd rfl (Or.inl rfl) (pe_callTy (call_list_txt rfl) (by rfl) T.list (by decide +kernel) (pa_cons (pv 1) pa_nil)))
      (pss_cons (ps_while PassesOwn.never (pt_cmpR op_gt (pe_callB call_len (by rfl) T.len PySem.boot_len (pa_cons (pv 2) pa_nil)) pe_int (nomark _))
        (pss_one (ps_set (i := 2) scMark.nd rfl (Or.inl rfl) (pc D1 G1 hr1 (pa_cons (pv 2) (pa_cons (pe_ix ix_seq (pe_callB (cr_minSz rfl hun) (by rfl) T.min (by rfl) (pa_cons
          (pe_lc (own := [("part", 3)]) (g := gName 3) rfl scMark.nd (pi_list (pv 2))
            (blkOk_by (own := [("part", 3)]) (N := nMark) (sc := defScope sMark) (by decide +kernel)) (fun _ _ _ _ _ => pg_name (i := 3) scMark.nd rfl (Or.inl rfl))
            (fun _ _ _ _ _ => pts_one (pt_cmpR op_eq (pe_op op_mod (pe_callB (call_lenK (K0 := K) rfl) (by rfl) T.len PySem.boot_len (pa_cons (pv 3) pa_nil)) pe_int) pe_int (nomark _)))
            (fun _ _ _ _ _ => pe_tup (pa_cons (pe_callB (call_lenK (K0 := K) rfl) (by rfl) T.len PySem.boot_len (pa_cons (pv 3) pa_nil)) (pa_cons (pv 3) pa_nil)))) pa_nil)) pe_int (fun _ _ => rfl)) pa_nil))))))
      (pss_one (ps_ret (pe_ix ix_seq (pv 2) pe_int (fun _ _ => rfl))))), ?_⟩
    have lw : 0 < w.length := List.length_pos_iff.mpr hw.1
    refine ⟨_, rfl, ⟨w.toArray⟩, rfl, ?_, fun L0 hL0 => ?_⟩
    · show w.toArray.size ≤ sizeLine
      rw [List.size_toArray]; exact Nat.le_trans hl (by decide)
    have e0 : ((⟨w.toArray⟩ : Str).cps.toList.map fun c => V.str ⟨#[c]⟩) = (w.map fun c => [c]).map tV := by
      rw [List.map_map]; rfl
    have f0 := ones_flat w
    rw [e0]
    refine ⟨fun m σ H' => ∃ (L : Addr) (ps : List (List Nat)) (v3 : Option V), σ = [some x, some (tV w), some (.ref L), v3] ∧ Same H H' ∧ H' L = some (.lst (ps.map tV)) ∧ ps ≠ [] ∧ ps.length ≤ 1000 ∧ Turn w ps.flatten ∧ (∀ u, Mk.Ring ps u → Mk.Ring (Mk.singles w) u) ∧ m = ps.length,
      ⟨_, L0, w.map fun c => [c], none, rfl, Same.upd hL0, upd_same, ?_, by rw [List.length_map]; exact hl, by rw [f0]; exact Turn.refl w, fun u h => h, rfl⟩, ?_⟩
    · intro z
      have := congrArg List.length z
      rw [List.length_map] at this
      have h0 : w.length = 0 := this
      omega
    rintro m σ H1 ⟨L, ps, v3, rfl, sm, eL, hne, hpl, ht, hring, rfl⟩
    have lps : (ps.map tV).length = ps.length := List.length_map ..
    have tl := ht.len
    refine ⟨_, rfl, _, ps.length, rfl, .inl ⟨_, SqL.of eL, lps.symm⟩, _, _, rfl, rfl, _, rfl, ?_⟩
    by_cases h2 : 2 ≤ ps.length
    · rw [decide_eq_true (by omega : (1 : Int) < (ps.length : Int))]
      refine iteT ?_
      refine ⟨fun σ H' => ∃ (L : Addr) (ps' : List (List Nat)) (v3 : Option V), σ = [some x, some (tV w), some (.ref L), v3] ∧ Same H H' ∧ H' L = some (.lst (ps'.map tV)) ∧ ps' ≠ [] ∧ ps'.length < ps.length ∧ Turn w ps'.flatten ∧ (∀ u, Mk.Ring ps' u → Mk.Ring (Mk.singles w) u),
        fun σ' H' ⟨L, ps', v3, a1, a2, a3, a4, a5, a6, a7⟩ => ⟨ps'.length, a5, L, ps', v3, a1, a2, a3, a4, by omega, a6, a7, rfl⟩, ?_⟩
      refine ⟨_, rfl, _, rfl, L, rfl, ⟨_, SqL.of eL⟩, fun C hC => ?_⟩
      refine lc_list (K := K) (a := L) (xs := ps.map tV) (fun i H' => ∃ acc, Same H1 H' ∧ H' C = some (.lst acc) ∧ All2 (Sized K H') acc ((ps.take i).filter oddP)) ⟨[], Same.upd hC, upd_same, .nil⟩ (fun i H' _ ⟨_, s', _⟩ => SqL.of (s' _ _ eL)) ?_ ?_
      · rintro i y H2 hy ⟨acc, s2, eC, al⟩
        obtain ⟨p, hp, rfl⟩ : ∃ p, ps[i]? = some p ∧ y = tV p := by
          rw [List.getElem?_map] at hy
          cases e : ps[i]? with
          | none => rw [e] at hy; exact nomatch hy
          | some p => rw [e] at hy; cases hy; exact ⟨p, rfl, rfl⟩
        have hft := flat_take hp []
        have hps : p.length ≤ 1000 := by omega
        have lz : (⟨p.toArray⟩ : Str).length = p.length := by show p.toArray.size = _; rw [List.size_toArray]
        have fs : (ps.take (i + 1)).filter oddP = (ps.take i).filter oddP ++ (if oddP p = true then [p] else []) := by
          rw [List.take_add_one, hp, List.filter_append]
          show _ ++ List.filter _ [p] = _
          rw [List.filter_cons]; rfl
        refine ⟨rfl, _, rfl, _, p.length, rfl, ⟨by rw [lz]; exact Nat.le_trans hps (by decide), lz.symm⟩, _, _, rfl, rfl, (by show (0 : Int) < 2; decide), rfl, _, rfl, ?_⟩
        have e : decide (V.int ((p.length : Int) % 2) = V.int 1) = oddP p := decide_eq_decide.mpr ⟨fun h => by
          have := V.int.inj h
          omega, fun h => by rw [show (p.length : Int) % 2 = 1 from by omega]⟩
        show if decide (V.int ((p.length : Int) % 2) = V.int 1) = true then _ else _
        rw [e, fs]
        cases hd : oddP p with
        | true =>
          refine iteT ?_
          refine ⟨_, rfl, _, p.length, rfl, ⟨by rw [lz]; exact Nat.le_trans hps (by decide), lz.symm⟩, _, rfl, (by show 2 ≤ sizeLine; decide), fun q hq => ?_⟩
          have eC2 := Same.upd (o := .tup [.int (p.length : Nat), tV p]) hq _ _ eC
          have la := al.len
          refine ⟨acc, eC2, ?_, acc ++ [.ref q], same_put (s2.trans (Same.upd hq)) hC, upd_same, ?_⟩
          · rw [la]
            refine Nat.lt_of_le_of_lt (List.length_filter_le _ _) ?_
            rw [List.length_take]
            exact Nat.lt_of_le_of_lt (Nat.le_trans (Nat.min_le_right _ _) hpl) (by decide)
          · rw [if_pos rfl]
            have kp : NL H2 (upd (upd H2 q (.tup [.int (p.length : Nat), tV p])) C (.lst (acc ++ [.ref q]))) := (NL.new hq).trans (NL.lst eC2)
            exact (al.imp fun _ _ => Sized.keep kp).app (.cons ⟨q, rfl, (NL.lst eC2).tup (SqT.of upd_same)⟩ .nil)
        | false =>
          refine iteF ⟨acc, s2, eC, ?_⟩
          rw [if_neg Bool.false_ne_true, List.append_nil]; exact al
      rintro H2 ⟨acc, s2, eC, al⟩
      rw [lps, List.take_length] at al
      obtain ⟨p0, hp0, ep0⟩ := odd_part (ps := ps) (by rw [tl]; exact hodd)
      have hone : p0 ∈ ps.filter oddP := List.mem_filter.mpr ⟨hp0, decide_eq_true ep0⟩
      refine ⟨C, acc, ps.filter oddP, rfl, SqL.of eC, al.len, fun i v p h1 h2 => ?_, fun z => (by rw [z] at hone; exact nomatch hone), fun v p hpf hleast hs => ?_⟩
      · obtain ⟨p', h2', q, e, s⟩ := al.at (i := i) h1
        rw [h2] at h2'
        cases h2'
        exact ⟨q, e, s⟩
      obtain ⟨q, rfl, hq⟩ := hs
      have hpm := (List.mem_filter.mp hpf).1
      have hpo : oddP p = true := (List.mem_filter.mp hpf).2
      have hmin : Mk.IsMin p ps := ⟨hpm, (show p.length % 2 = 1 from of_decide_eq_true hpo), fun y hy oy => hleast y (List.mem_filter.mpr ⟨hy, decide_eq_true (show y.length % 2 = 1 from oy)⟩)⟩
      refine .inr (.inl ⟨q, _, 1, _, rfl, rfl, hq, atI_nat (j := 1) rfl, ?_⟩)
      have eL2 := s2 _ _ eL
      refine ⟨L, ps, p, rfl, eL2, unlike hw ht h2 p, hpl, by omega, fun H3 R jo s3 eR hj => ?_⟩
      have jl : jo.length = (ps.filter fun q => decide (q ≠ p)).length := by
        obtain ⟨R', hR', _, rfl⟩ := hj
        rw [Mk.jn_len]
        obtain ⟨a, b, rfl, rfl⟩ := hR'
        rw [List.filter_append, List.filter_append, List.length_append, List.length_append, Nat.add_comm]
      refine ⟨R, jo, _, rfl, (sm.trans s2).trans s3, eR, ?_, ?_, ht.trans (join_turn hj), fun u hu => hring u (by obtain ⟨R', h1, h2', rfl⟩ := hj; exact .step p ps R' u h2 hmin h1 h2' hu)⟩
      · intro z
        rw [z] at jl
        obtain ⟨q, hq, hqp⟩ := unlike hw ht h2 p
        have := List.length_pos_of_mem (List.mem_filter.mpr ⟨hq, decide_eq_true hqp⟩ : q ∈ ps.filter fun q => decide (q ≠ p))
        have h0 : 0 = (ps.filter fun q => decide (q ≠ p)).length := jl
        omega
      · rw [jl]
        refine Nat.lt_of_le_of_ne (List.length_filter_le _ _) fun z => ?_
        have := List.length_filter_eq_length_iff.mp z p hpm
        exact of_decide_eq_true this rfl
    · rw [decide_eq_false (by omega : ¬ (1 : Int) < (ps.length : Int))]
      refine iteF ?_
      match ps, hne, h2 with
      | [p], _, _ =>
        have ef : [p].flatten = p := by rw [List.flatten_cons, List.flatten_nil, List.append_nil]
        rw [ef] at ht
        exact ⟨_, rfl, .inl ⟨L, _, 0, _, rfl, rfl, SqL.of eL, atI_nat (j := 0) rfl, k _ p sm ht (hring p (.one p)).mark.choose_spec.choose_spec.2.2⟩⟩
      | _ :: _ :: _, _, h2 => exact absurd (Nat.le_add_left _ _) h2
end
end K49

set_option Elab.async false
set_option linter.all false
set_option maxRecDepth 100000
set_option maxHeartbeats 4000000
namespace K49
open PySem PySem.Spec PyProof.Rows L2 Ami
/-- what is_repeated tells, in the words of R1 -/
theorem prim_of {z : Str} (hz : z.cps.toList ≠ []) : Wd.powB z = false ↔ Rng.Prim z.cps.toList := by
  rw [Rng.prim_iff hz, K02m.turn_iff_power, ← Wd.powB_iff z]
  cases Wd.powB z <;> simp
end K49

set_option Elab.async false
set_option linter.all false
set_option maxRecDepth 100000
set_option maxHeartbeats 4000000
namespace K49
open PySem PySem.Spec PyProof.Rows L2 Ami
/-- marked words of one odd length: none is seen between two -/
theorem free_marks {ws : List Str} {n : Nat} (ho : n % 2 = 1) (h : ∀ w ∈ ws, w.length = n ∧ Mk.Mark w.cps.toList) : freeB ws = true := by
  rw [free_iff]
  intro x hx y hy k k1 k2 hm
  obtain ⟨lx, mx⟩ := h x hx
  obtain ⟨ly, my⟩ := h y hy
  rw [amid_eq x y k (Nat.le_of_lt k2) (by omega)] at hm
  obtain ⟨_, mm⟩ := h _ hm
  have tx : x.cps.toList.length = n := by rw [len_toList]; exact lx
  have ty : y.cps.toList.length = n := by rw [len_toList]; exact ly
  have mm : Mk.Mark (x.cps.toList.drop k ++ y.cps.toList.take k) := by rw [List.toList_toArray] at mm; exact mm
  have hl : (x.cps.toList.drop k ++ y.cps.toList.take k).length = n := by
    rw [List.length_append, List.length_drop, List.length_take, tx, ty]; omega
  refine Mk.comma_free (u := x.cps.toList) (v := y.cps.toList) (w := x.cps.toList.drop k ++ y.cps.toList.take k) (y := x.cps.toList.take k) (s := x.cps.toList.drop k) (p := y.cps.toList.take k) (y' := y.cps.toList.drop k) mx my mm ?_ ?_ ?_ rfl ?_ ?_ ?_ ?_
  · show (x.cps.toList.drop k ++ y.cps.toList.take k).length % 2 = 1
    rw [hl]; exact ho
  · rw [hl, tx]
  · rw [hl, ty]
  · exact (List.take_append_drop k _).symm
  · exact (List.take_append_drop k _).symm
  · intro z
    have := congrArg List.length z
    rw [List.length_drop, tx, List.length_nil] at this
    omega
  · intro z
    have := congrArg List.length z
    rw [List.length_take, ty, List.length_nil] at this
    omega
theorem turn_split {w v : List Nat} (h : Turn w v) : ∃ a b, w = a ++ b ∧ v = b ++ a := by
  obtain ⟨j, rfl⟩ := h
  have key : ∀ j, ∃ a b, w = a ++ b ∧ Rng.it Rng.r1 j w = b ++ a := fun j => by
    induction j with
    | zero => exact ⟨[], w, rfl, (List.append_nil w).symm⟩
    | succ j ih =>
      obtain ⟨a, b, h1, h2⟩ := ih
      rw [Rng.it_succ, h2]
      cases b with
      | nil =>
        cases a with
        | nil => exact ⟨[], [], h1, rfl⟩
        | cons x l => exact ⟨[x], l, by rw [h1]; simp, rfl⟩
      | cons x b => exact ⟨a ++ [x], b, by rw [h1]; simp, by show b ++ a ++ [x] = _; simp⟩
  exact key j
theorem Turn.symm {w v : List Nat} (h : Turn w v) : Turn v w := by
  obtain ⟨a, b, rfl, rfl⟩ := turn_split h
  exact Turn.cut b a
theorem Turn.prim {w v : List Nat} (h : Turn w v) (p : Rng.Prim w) : Rng.Prim v := by
  obtain ⟨j, rfl⟩ := h
  induction j with
  | zero => exact p
  | succ j ih => rw [Rng.it_succ]; exact Rng.prim_r1 ih
theorem Turn.mem {w v : List Nat} (h : Turn w v) {c : Nat} : c ∈ v ↔ c ∈ w := by
  obtain ⟨a, b, rfl, rfl⟩ := turn_split h
  simp only [List.mem_append]
  exact Or.comm
/-- a ring has one marked turn -/
theorem mark_one {w u v : List Nat} (hu : Turn w u) (hv : Turn w v) (mu : Mk.Mark u) (mv : Mk.Mark v) (ho : w.length % 2 = 1) : u = v := by
  obtain ⟨a, b, rfl, rfl⟩ := turn_split (hu.symm.trans hv)
  have l := hu.len
  exact Mk.mark_uniq mu mv (show (a ++ b).length % 2 = 1 by rw [l]; exact ho)
theorem str_bk (z : Str) : (⟨z.cps.toList.toArray⟩ : Str) = z := by rw [Array.toArray_toList]
theorem list_inj {x y : Str} (h : x.cps.toList = y.cps.toList) : x = y := by rw [← str_bk x, ← str_bk y, h]
theorem rot_turn (z : Str) {k : Nat} (h : k ≤ z.length) : Turn z.cps.toList (Wd.rot z k).cps.toList := by
  rw [Wd.rot_list z k h]
  have := Turn.cut (z.cps.toList.take k) (z.cps.toList.drop k)
  rw [List.take_append_drop] at this
  exact this
theorem turn_rot {z : Str} {v : List Nat} (h : Turn z.cps.toList v) (hz : 0 < z.length) : ∃ k, k < z.length ∧ v = (Wd.rot z k).cps.toList := by
  obtain ⟨a, b, e, rfl⟩ := turn_split h
  have hl : a.length + b.length = z.length := by
    have := congrArg List.length e
    rw [len_toList, List.length_append] at this
    omega
  by_cases hb : b = []
  · subst hb
    refine ⟨0, hz, ?_⟩
    rw [Wd.rot_list z 0 (by omega), e]; simp
  · have := List.length_pos_iff.mpr hb
    refine ⟨a.length, by omega, ?_⟩
    rw [Wd.rot_list z _ (by omega), e, List.drop_left, List.take_left]
/-- no turn of it is less -/
def leastB (z : Str) : Bool := (List.range z.length).all fun k => !decide ((Wd.rot z k).cps.toList < z.cps.toList)
theorem least_iff {z : Str} (hz : 0 < z.length) : leastB z = true ↔ ∀ v, Turn z.cps.toList v → ¬ v < z.cps.toList := by
  unfold leastB
  simp only [List.all_eq_true, List.mem_range, Bool.not_eq_true', decide_eq_false_iff_not]
  constructor
  · intro h v hv
    obtain ⟨k, hk, rfl⟩ := turn_rot hv hz
    exact h k hk
  · intro h k hk
    exact h _ (rot_turn z (Nat.le_of_lt hk))
theorem least_of {z y : Str} {r : List Str} (hz : 0 < z.length) (t : Wd.TurnsOf z (y :: r)) : y = z ↔ leastB z = true := by
  have hm : max 1 z.length = z.length := by omega
  obtain ⟨u1, _⟩ := List.pairwise_cons.mp t.up
  have all : ∀ x, x ∈ y :: r ↔ ∃ k, k < z.length ∧ x = Wd.rot z k := fun x => by rw [t.mem, Wd.isRot_all, hm]
  rw [least_iff hz]
  constructor
  · rintro rfl v hv
    obtain ⟨k, hk, rfl⟩ := turn_rot hv hz
    rcases List.mem_cons.mp ((all _).mpr ⟨k, hk, rfl⟩) with h | h
    · rw [h]; exact List.lt_irrefl _
    · exact u1 _ h
  · intro h
    obtain ⟨k, hk, e⟩ := (all y).mp List.mem_cons_self
    have h1 : ¬ y.cps.toList < z.cps.toList := by rw [e]; exact h _ (rot_turn z (Nat.le_of_lt hk))
    have h2 : ¬ z.cps.toList < y.cps.toList := by
      rcases List.mem_cons.mp ((all z).mpr ⟨0, hz, (Wd.rot_zero z).symm⟩) with e | e
      · rw [e]; exact List.lt_irrefl _
      · exact u1 _ e
    exact list_inj (List.le_antisymm (List.not_lt.mp h2) (List.not_lt.mp h1))
theorem min_str : ∀ (L : List (List Nat)), L ≠ [] → ∃ m ∈ L, ∀ x ∈ L, ¬ x < m
  | [], h => absurd rfl h
  | [a], _ => ⟨a, List.mem_cons_self, fun x hx => by rw [List.mem_singleton.mp hx]; exact List.lt_irrefl _⟩
  | a :: b :: L, _ => by
    obtain ⟨m, hm, hl⟩ := min_str (b :: L) (by simp)
    by_cases h : a < m
    · refine ⟨a, List.mem_cons_self, fun x hx hxa => ?_⟩
      rcases List.mem_cons.mp hx with rfl | hx
      · exact List.lt_irrefl _ hxa
      · exact hl x hx (List.lt_trans hxa h)
    · refine ⟨m, List.mem_cons_of_mem _ hm, fun x hx => ?_⟩
      rcases List.mem_cons.mp hx with rfl | hx
      · exact h
      · exact hl x hx
/-- each ring has a least word -/
theorem least_ex {w : List Nat} (hw : w ≠ []) : ∃ z : Str, Turn w z.cps.toList ∧ leastB z = true := by
  have hp := List.length_pos_iff.mpr hw
  obtain ⟨m, hm, hl⟩ := min_str ((List.range w.length).map fun k => (Wd.rot ⟨w.toArray⟩ k).cps.toList) (by
    intro z
    have := congrArg List.length z
    rw [List.length_map, List.length_range, List.length_nil] at this
    omega)
  have lw : (⟨w.toArray⟩ : Str).length = w.length := by show w.toArray.size = _; rw [List.size_toArray]
  obtain ⟨k, hk, rfl⟩ := List.mem_map.mp hm
  have hk := List.mem_range.mp hk
  have tw : Turn w (Wd.rot ⟨w.toArray⟩ k).cps.toList := by
    have := rot_turn (⟨w.toArray⟩ : Str) (k := k) (by rw [lw]; omega)
    rw [List.toList_toArray] at this
    exact this
  have lr : (Wd.rot ⟨w.toArray⟩ k).length = w.length := (Wd.rot_length _ k (by rw [lw]; omega)).trans lw
  refine ⟨Wd.rot ⟨w.toArray⟩ k, tw, (least_iff (by rw [lr]; exact hp)).mpr fun v hv => ?_⟩
  have tv : Turn w v := tw.trans hv
  obtain ⟨j, hj, rfl⟩ := turn_rot (z := ⟨w.toArray⟩) (by rw [List.toList_toArray]; exact tv) (by rw [lw]; exact hp)
  rw [lw] at hj
  exact hl _ (List.mem_map.mpr ⟨j, List.mem_range.mpr hj, rfl⟩)
/-- the words of a length that stand for their rings -/
def goodB (z : Str) : Bool := !Wd.powB z && leastB z
def wordsS (S : List Nat) (n : Nat) : List Str := (K02m.W S.length n).map (Wd.wd S)
theorem w_all {L : Nat} : ∀ {n : Nat} {r : List Nat}, r.length = n → (∀ d ∈ r, d < L) → r ∈ K02m.W L n
  | 0, r, h, _ => by
    rw [List.length_eq_zero_iff.mp h]
    exact List.mem_singleton.mpr rfl
  | n + 1, [], h, _ => nomatch h
  | n + 1, d :: q, h, hd => List.mem_flatMap.mpr ⟨q, w_all (by simpa using h) fun e he => hd e (List.mem_cons_of_mem _ he), List.mem_map.mpr ⟨d, List.mem_range.mpr (hd d List.mem_cons_self), rfl⟩⟩
theorem digits {S : List Nat} : ∀ {w : List Nat}, (∀ c ∈ w, c ∈ S) → ∃ q : List Nat, q.length = w.length ∧ (∀ d ∈ q, d < S.length) ∧ q.map (fun d => S.getD d 0) = w
  | [], _ => ⟨[], rfl, (fun d hd => nomatch hd), rfl⟩
  | c :: w, h => by
    obtain ⟨q, h1, h2, h3⟩ := digits fun x hx => h x (List.mem_cons_of_mem _ hx)
    obtain ⟨d, hd, e⟩ := List.getElem_of_mem (h c List.mem_cons_self)
    refine ⟨d :: q, by rw [List.length_cons, List.length_cons, h1], fun x hx => ?_, ?_⟩
    · rcases List.mem_cons.mp hx with rfl | hx
      · exact hd
      · exact h2 x hx
    · rw [List.map_cons, h3, List.getD_eq_getElem?_getD, List.getElem?_eq_getElem hd, e]; rfl
theorem words_all {S w : List Nat} {n : Nat} (h : ∀ c ∈ w, c ∈ S) (hn : w.length = n) : (⟨w.toArray⟩ : Str) ∈ wordsS S n := by
  obtain ⟨q, h1, h2, h3⟩ := digits h
  refine List.mem_map.mpr ⟨q.reverse, w_all (by rw [List.length_reverse, h1, hn]) fun d hd => h2 d (List.mem_reverse.mp hd), ?_⟩
  unfold Wd.wd
  rw [List.map_reverse, List.reverse_reverse, h3]
theorem words_in {S : List Nat} {n : Nat} (hS : 0 < S.length) {z : Str} (h : z ∈ wordsS S n) : z.length = n ∧ ∀ c ∈ z.cps.toList, c ∈ S := by
  obtain ⟨r, hr, rfl⟩ := List.mem_map.mp h
  obtain ⟨a, b⟩ := K02m.w_mem n r hr
  refine ⟨by rw [Wd.wd_length, a], fun c hc => ?_⟩
  unfold Wd.wd at hc
  rw [List.toList_toArray, List.mem_reverse] at hc
  obtain ⟨d, hd, rfl⟩ := List.mem_map.mp hc
  have := b d hd
  rw [List.getD_eq_getElem?_getD, List.getElem?_eq_getElem this]
  exact List.getElem_mem this
/-- which marked word stands for which -/
def Rel (z y : Str) : Prop := Turn z.cps.toList y.cps.toList ∧ Mk.Mark y.cps.toList
theorem All2.mem' {α β : Type} {R : α → β → Prop} {as : List α} {bs : List β} (h : All2 R as bs) {b : β} (hb : b ∈ bs) : ∃ a ∈ as, R a b := by
  obtain ⟨i, hi, rfl⟩ := List.getElem_of_mem hb
  obtain ⟨a, ha, r⟩ := h.at' (List.getElem?_eq_getElem hi)
  exact ⟨a, List.mem_of_getElem? ha, r⟩
theorem All2.mem {α β : Type} {R : α → β → Prop} {as : List α} {bs : List β} (h : All2 R as bs) {a : α} (ha : a ∈ as) : ∃ b ∈ bs, R a b := by
  obtain ⟨i, hi, rfl⟩ := List.getElem_of_mem ha
  obtain ⟨b, hb, r⟩ := h.at (List.getElem?_eq_getElem hi)
  exact ⟨b, List.mem_of_getElem? hb, r⟩
/-- the book's words are marked, and each ring has one there -/
theorem book_mark {S : List Nat} {n : Nat} {ws ss : List Str} (hS : 0 < S.length) (h : All2 Rel ((wordsS S n).filter goodB) ws) (hp : ss.Perm ws) {y : Str} (hy : y ∈ ss) : y.length = n ∧ Mk.Mark y.cps.toList := by
  obtain ⟨z, hz, t, m⟩ := All2.mem' h (hp.mem_iff.mp hy)
  obtain ⟨lz, _⟩ := words_in hS (List.mem_filter.mp hz).1
  refine ⟨?_, m⟩
  have := t.len
  rw [len_toList, len_toList] at this
  omega
theorem book_ring {S w : List Nat} {n : Nat} {ws ss : List Str} (h : All2 Rel ((wordsS S n).filter goodB) ws) (hp : ss.Perm ws) (hw : Rng.Prim w) (hc : ∀ c ∈ w, c ∈ S) (hn : w.length = n) : ∃ y ∈ ss, Turn w y.cps.toList := by
  obtain ⟨z, tz, lz⟩ := least_ex hw.1
  have pz := tz.prim hw
  have zm : z ∈ wordsS S n := by
    have := words_all (S := S) (w := z.cps.toList) (n := n) (fun c hc' => hc c (tz.mem.mp hc')) (by rw [tz.len, hn])
    rw [str_bk] at this
    exact this
  have zg : goodB z = true := by
    unfold goodB
    rw [lz, (prim_of pz.1).mpr pz]; rfl
  obtain ⟨y, hy, t, _⟩ := All2.mem h (List.mem_filter.mpr ⟨zm, zg⟩)
  exact ⟨y, hp.mem_iff.mpr hy, tz.trans t⟩
end K49

set_option Elab.async false
set_option linter.all false
set_option maxRecDepth 100000
set_option maxHeartbeats 4000000
/-! comma_free_book of an odd length -/
namespace Ami
open PySem PySem.Spec PyProof.Rows L2
/-- a row that is not reached -/
theorem ps_nowhere {X : Cx} {st : Stmt} : PS X st (fun _ _ _ => False) := ⟨fun _ _ _ _ _ _ h => h.elim⟩
end Ami
namespace K49
open PySem PySem.Spec PyProof.Rows L2 Ami
def spBook : Sp := fun vs H Q _ => ∃ (S : List Nat) (n : Nat), vs = [tV S, .int n] ∧ S.Nodup ∧ 2 ≤ S.length ∧ S.length ≤ 5 ∧ n % 2 = 1 ∧ n ≤ 20 ∧ S.length ^ n ≤ 20000 ∧
  ∀ (ws ss : List Str) (t : Addr) H', Same H H' → H t = none → H' t = some (.tup (ss.map V.str)) → All2 Rel ((wordsS S n).filter goodB) ws → ss.Perm ws → Up ss → Q (.ref t) H'
section
variable {P : Program} {w : World} {K : PySem.W.Frag} {mg : Str → Option Value} {base : Heap}
abbrev nBook : List Str := ["letters", "length", "book", "word"]
theorem scBook : FnScope nBook ["letters", "length"] (defScope sBook) := ⟨rfl, rfl, rfl, by decide +kernel, rfl, by decide +kernel, by decide +kernel⟩
theorem ok_book {f fw fr fl fm : Addr} {fd dw dr dl dm : FuncData} (F : Fun K "comma_free_book" "comma_free_book" sBook f fd) (T : Blt mg)
    (Dw : DefAt K mg "words_with" sWith ["letters", "length"] fw dw) (Gw : QFn P w K mg base 1 fw dw ["letters", "length"] Wd.spWith)
    (Dr : DefAt K mg "is_repeated" sRep ["word"] fr dr) (Gr : FnOk P w K mg base CX0 1 fr dr ["word"] Wd.spRep)
    (Dl : DefAt K mg "least_turn" sLeast ["word"] fl dl) (Gl : FnOk P w K mg base CX0 2 fl dl ["word"] Wd.spLeast)
    (Dm : DefAt K mg "marked_turn" sMark ["letters", "word"] fm dm) (Gm : FnOk P w K mg base CX0 2 fm dm ["letters", "word"] spMark) :
    FnOk P w K mg base CX0 4 f fd ["letters", "length"] spBook := by
  refine F.ok scBook (fun vs H Q E h => ?_) (fun cdv A' outer s H vs Q E hr h => ?_)
  · obtain ⟨S, n, rfl, _⟩ := h
    rfl
  · obtain ⟨S, n, rfl, nS, S2, S5, n1, n20, hbig, k⟩ := h
    have hr1 := hr.mono (j := 1) (by decide)
    have hr2 := hr.mono (j := 2) (by decide)
    refine ⟨_, pss_cons (ps_if (pt_cmpR op_eq (pe_op op_mod (pv 1) pe_int) pe_int (nomark _)) (pss_one ps_nowhere) pss_nil)
      (pss_cons (ps_set (i := 2) scBook.nd rfl (Or.inl rfl) (pe_lst pa_nil))
      (pss_cons (ps_forQ PassesOwn.never hr (pq_call Gw hr1 rfl Dw.g Dw.F.kp Dw.b (pat_cons (pet_var (i := 0) (x := "letters") rfl (.inl rfl)) (pat_cons (pet_var (i := 1) (x := "length") rfl (.inl rfl)) pat_nil))) (pg_name (i := 3) scBook.nd rfl (Or.inl rfl))
        (pss_one (ps_if (PW.pt (pw_and (pt_not (pt_val (pc Dr Gr hr1 (pa_cons (pv 3) pa_nil)))) (pw_and1 (pt_cmpR op_eq (pv 3) (pc Dl Gl hr2 (pa_cons (pv 3) pa_nil)) (nomark _)))))
          (pss_one (ps_expr (pe_bm PySem.F.plainAttrs_list PySem.F.slot_list_append PySem.F.type_list_append mt_append (pv 2) (pa_cons (pc Dm Gm hr2 (pa_cons (pv 0) (pa_cons (pv 3) pa_nil))) pa_nil)))) pss_nil)))
      (pss_one (ps_ret (pe_callTy call_tuple_of (by rfl) T.tuple (by decide +kernel) (pa_cons (pe_callB cr_sortedT (by rfl) T.sorted (by decide +kernel) (pa_cons (pv 2) pa_nil)) pa_nil)))))), ?_⟩
    have e : decide (V.int ((n : Int) % 2) = V.int 0) = false := decide_eq_false fun h => by
      have := V.int.inj h
      omega
    refine ⟨_, rfl, _, _, rfl, rfl, (by show (0 : Int) < 2; decide), rfl, _, rfl, ?_⟩
    show if decide (V.int ((n : Int) % 2) = V.int 0) = true then _ else _
    rw [e]
    refine iteF ?_
    refine ⟨Nat.zero_le _, fun L hL => ?_⟩
    refine ⟨_, rfl, _, rfl, Wd.wordsOf S n, ⟨S, n, rfl, nS, S2, by omega, by omega, rfl⟩, ?_⟩
    have lw : (Wd.wordsOf S n).length ≤ 20000 := by
      rw [Wd.words_length, K02m.w_length]; exact hbig
    have ew : Wd.wordsOf S n = (wordsS S n).map V.str := by
      unfold Wd.wordsOf wordsS
      rw [List.map_map]; rfl
    rw [ew]
    have lw2 : (wordsS S n).length ≤ 20000 := by rw [ew, List.length_map] at lw; exact lw
    refine ⟨fun i m σ H' => m = (wordsS S n).length - i ∧ i ≤ (wordsS S n).length ∧ ∃ (ws : List Str) (v3 : Option V), σ = [some (tV S), some (.int n), some (.ref L), v3] ∧ Same H H' ∧ H' L = some (.lst (ws.map V.str)) ∧ ws.length ≤ i ∧ All2 Rel (((wordsS S n).take i).filter goodB) ws, ⟨_, rfl, Nat.zero_le _, [], _, rfl, Same.upd hL, upd_same, Nat.le_refl _, .nil⟩, ?_⟩
    rintro i m σ H1 ⟨rfl, hi, ws, v3, rfl, sm, eL, hws, hall⟩
    by_cases hlt : i < (wordsS S n).length
    · refine .inr ⟨by rw [List.length_map]; exact hlt, fun σ' H' => ∃ (ws : List Str) (v3 : Option V), σ' = [some (tV S), some (.int n), some (.ref L), v3] ∧ Same H H' ∧ H' L = some (.lst (ws.map V.str)) ∧ ws.length ≤ i + 1 ∧ All2 Rel (((wordsS S n).take (i + 1)).filter goodB) ws, fun σ' H' ⟨ws, v3, a1, a2, a3, a4, a5⟩ => ⟨_, by omega, rfl, hlt, ws, v3, a1, a2, a3, a4, a5⟩, fun x hx => ?_⟩
      rw [List.getElem?_map] at hx
      obtain ⟨z, hz, rfl⟩ : ∃ z, (wordsS S n)[i]? = some z ∧ x = V.str z := by
        cases e : (wordsS S n)[i]? with
        | none => rw [e] at hx; exact nomatch hx
        | some p => rw [e] at hx; cases hx; exact ⟨p, rfl, rfl⟩
      obtain ⟨zl, _⟩ := words_in (by omega) (List.mem_of_getElem? hz)
      have n0 : 0 < n := by omega
      have zc : z.cps.toList.length = n := by rw [len_toList]; exact zl
      have zn : z.cps.toList ≠ [] := fun q => by
        rw [q] at zc
        have : 0 = n := zc
        omega
      have etk : ((wordsS S n).take (i + 1)).filter goodB = ((wordsS S n).take i).filter goodB ++ (if goodB z = true then [z] else []) := by
        rw [List.take_add_one, hz, List.filter_append]
        show _ ++ List.filter _ [z] = _
        rw [List.filter_cons]; rfl
      have go : ∀ H2, goodB z = false → Same H1 H2 → (∃ (ws : List Str) (v3 : Option V), [some (tV S), some (.int n), some (.ref L), some (V.str z)] = [some (tV S), some (.int n), some (.ref L), v3] ∧ Same H H2 ∧ H2 L = some (.lst (ws.map V.str)) ∧ ws.length ≤ i + 1 ∧ All2 Rel (((wordsS S n).take (i + 1)).filter goodB) ws) := fun H2 hg s2 => ⟨ws, _, rfl, sm.trans s2, s2 _ _ eL, by omega, by rw [etk, hg]; simpa using hall⟩
      refine ⟨_, rfl, z, rfl, by omega, by omega, fun H2 s2 => ⟨_, rfl, ?_⟩⟩
      show if (!Wd.powB z) = true then _ else _
      cases hp : Wd.powB z with
      | true => exact iteF (iteF (go H2 (by unfold goodB; rw [hp]; rfl) s2))
      | false =>
        refine iteT ?_
        refine ⟨_, rfl, _, rfl, z, rfl, by omega, fun y r' H3 tz s3 => ⟨rfl, _, rfl, ?_⟩⟩
        have hyl := least_of (by omega) tz
        have s13 := s2.trans s3
        cases hy : decide (V.str z = V.str y) with
        | false =>
          have hyz : ¬ y = z := fun e => by rw [e, decide_eq_true rfl] at hy; exact nomatch hy
          refine iteF (go H3 ?_ s13)
          unfold goodB
          rw [Bool.eq_false_iff.mpr fun q => hyz (hyl.mpr q), Bool.and_false]
        | true =>
          have hyz : y = z := (V.str.inj (of_decide_eq_true hy)).symm
          have hg : goodB z = true := by
            unfold goodB
            rw [hp, hyl.mp hyz]; rfl
          refine iteT ?_
          have eL3 := s13 _ _ eL
          refine ⟨_, rfl, .inl ⟨rfl, _, SqL.of eL3⟩, _, rfl, _, rfl, tV S, z.cps.toList, congrArg (fun q => [tV S, V.str q]) (str_bk z).symm, (prim_of zn).mp hp, by omega, by omega, fun H4 v s4 tv mv => ?_⟩
          have eL4 := s4 _ _ eL3
          refine ⟨L, _, _, rfl, rfl, eL4, by rw [List.length_map]; exact Nat.lt_of_le_of_lt (by omega : ws.length ≤ 20000) (by decide), ?_⟩
          refine ⟨ws ++ [⟨v.toArray⟩], _, rfl, same_put (sm.trans (s13.trans s4)) hL, ?_, by rw [List.length_append]; exact Nat.succ_le_succ hws, ?_⟩
          · rw [upd_same, List.map_append]; rfl
          · rw [etk, hg]
            refine hall.app (.cons ⟨?_, ?_⟩ .nil)
            · rw [List.toList_toArray]; exact tv
            · rw [List.toList_toArray]; exact mv
    · have ei : i = (wordsS S n).length := by omega
      rw [ei, List.take_length] at hall
      refine .inl ⟨by rw [List.length_map]; omega, _, rfl, L, ws, rfl, SqL.of eL, fun ys p hpm hup hp => ?_⟩
      refine ⟨p, _, rfl, .inl ⟨SqL.of upd_same, fun l hl => ?_⟩⟩
      refine k ws ys l _ ((sm.trans (Same.upd hp)).trans (Same.upd hl)) ?_ upd_same hall hpm hup
      cases e : H l with
      | none => rfl
      | some u =>
        have := (sm.trans (Same.upd (o := .lst (ys.map V.str)) hp)) l u e
        rw [hl] at this
        cases this
end
end K49

set_option Elab.async false
set_option linter.all false
set_option maxRecDepth 100000
set_option maxHeartbeats 4000000
/-! the law's own turns -/
namespace K49
open PySem PySem.Spec PyProof.Rows L2 Ami
def turnsL (z : Str) : List Str := (List.range z.length).map (Wd.rot z)
theorem turnsL_len (z : Str) : (turnsL z).length = z.length := by unfold turnsL; rw [List.length_map, List.length_range]
theorem turnsL_mem {z x : Str} : x ∈ turnsL z ↔ ∃ k, k < z.length ∧ x = Wd.rot z k := by
  unfold turnsL
  rw [List.mem_map]
  constructor
  · rintro ⟨k, hk, rfl⟩; exact ⟨k, List.mem_range.mp hk, rfl⟩
  · rintro ⟨k, hk, rfl⟩; exact ⟨k, List.mem_range.mpr hk, rfl⟩
theorem turnsL_turn {z x : Str} (hz : 0 < z.length) : x ∈ turnsL z ↔ Turn z.cps.toList x.cps.toList := by
  rw [turnsL_mem]
  constructor
  · rintro ⟨k, hk, rfl⟩; exact rot_turn z (Nat.le_of_lt hk)
  · intro h
    obtain ⟨k, hk, e⟩ := turn_rot h hz
    exact ⟨k, hk, list_inj e⟩
/-- a word that is no power is once among its turns -/
theorem count_one {z : Str} (hz : 0 < z.length) : (turnsL z).count z = 1 ↔ Rng.Prim z.cps.toList := by
  have zl : z.cps.toList.length = z.length := len_toList z
  have ne : z.cps.toList ≠ [] := fun e => by rw [e] at zl; have : 0 = z.length := zl; omega
  obtain ⟨m, hm⟩ : ∃ m, z.length = m + 1 := ⟨z.length - 1, by omega⟩
  have e : turnsL z = z :: (List.range' 1 m).map (Wd.rot z) := by
    unfold turnsL
    rw [hm, List.range_eq_range', List.range'_succ, List.map_cons, Wd.rot_zero]
  rw [e, List.count_cons_self, Rng.prim_iff ne, zl]
  have key : ((List.range' 1 m).map (Wd.rot z)).count z = 0 ↔ ¬ ∃ j, 0 < j ∧ j < z.length ∧ z.cps.toList.drop j ++ z.cps.toList.take j = z.cps.toList := by
    rw [List.count_eq_zero]
    constructor
    · rintro h ⟨j, h1, h2, h3⟩
      refine h (List.mem_map.mpr ⟨j, List.mem_range'_1.mpr ⟨h1, by omega⟩, list_inj ?_⟩)
      rw [Wd.rot_list z j (Nat.le_of_lt h2)]; exact h3
    · intro h hmem
      obtain ⟨j, hj, e⟩ := List.mem_map.mp hmem
      obtain ⟨h1, h2⟩ := List.mem_range'_1.mp hj
      refine h ⟨j, h1, by omega, ?_⟩
      rw [← Wd.rot_list z j (by omega), e]
  rw [← key]
  omega
theorem turnsL_nodup {z : Str} (hp : Rng.Prim z.cps.toList) : (turnsL z).Nodup := by
  have hz : 0 < z.length := by
    have := List.length_pos_iff.mpr hp.1
    rw [len_toList] at this
    exact this
  have zl : z.cps.toList.length = z.length := len_toList z
  unfold turnsL List.Nodup
  rw [List.pairwise_map]
  refine List.pairwise_lt_range.imp_of_mem fun {i j} hi hj hij e => ?_
  have hi := List.mem_range.mp hi
  have hj := List.mem_range.mp hj
  have e2 : (Wd.rot z i).cps.toList = (Wd.rot z j).cps.toList := by rw [e]
  rw [Wd.rot_list z i (Nat.le_of_lt hi), Wd.rot_list z j (Nat.le_of_lt hj), ← Rng.it_r1 i _ (by omega), ← Rng.it_r1 j _ (by omega)] at e2
  have ej : Rng.it Rng.r1 j z.cps.toList = Rng.it Rng.r1 i (Rng.it Rng.r1 (j - i) z.cps.toList) := by rw [← Rng.it_add]; congr 1; omega
  rw [ej] at e2
  have e3 := Rng.it_r1_inj i e2
  refine ((Rng.prim_iff hp.1).mp hp) ⟨j - i, by omega, by omega, ?_⟩
  rw [← Rng.it_r1 (j - i) _ (by omega)]
  exact e3.symm
def spT1 : Sp := fun vs H Q _ => ∃ z : Str, vs = [.str z] ∧ z.length ≤ 1000 ∧ ∀ (L : Addr) H', Same H H' → H L = none → H' L = some (.lst ((turnsL z).map V.str)) → Q (.ref L) H'
def spBare : Sp := fun vs H Q _ => ∃ z : Str, vs = [.str z] ∧ 0 < z.length ∧ z.length ≤ 1000 ∧ ∀ H', Same H H' → Q (.bl (decide ((turnsL z).count z = 1))) H'
section
variable {P : Program} {w : World} {K : PySem.W.Frag} {mg : Str → Option Value} {base : Heap}
theorem scT1 : FnScope ["_law_item", "_law_k"] ["_law_item"] (defScope sTurns1) := ⟨rfl, rfl, rfl, by decide +kernel, rfl, by decide +kernel, by decide +kernel⟩
theorem ok_t1 {f : Addr} {fd : FuncData} (F : Fun K "_law_turns" "_law_turns" sTurns1 f fd) (T : Blt mg) : FnOk P w K mg base CX0 1 f fd ["_law_item"] spT1 := by
  refine F.ok scT1 (fun vs H Q E h => ?_) (fun cdv A outer s H vs Q E hr h => ?_)
  · obtain ⟨z, rfl, _⟩ := h
    rfl
  · obtain ⟨z, rfl, hl, k⟩ := h
    refine ⟨_, pss_one (ps_ret (pe_lc (own := [("_law_k", 1)]) (g := gName 1) (tt := tYes) rfl scT1.nd (pi_range1 (by rfl) T.range (pa_cons (pe_callB call_len (by rfl) T.len PySem.boot_len (pa_cons (pv 0) pa_nil)) pa_nil))
      (blkOk_by (own := [("_law_k", 1)]) (N := ["_law_item", "_law_k"]) (sc := defScope sTurns1) (by decide +kernel)) (fun _ _ _ _ _ => pg_name (i := 1) scT1.nd rfl (Or.inl rfl)) (fun _ _ _ _ _ => pts_nil)
      (fun _ _ _ _ _ => pe_op op_add_str (pe_slice sl_str (pv 0) (po_some (pv 1)) po_none) (pe_slice sl_str (pv 0) po_none (po_some (pv 1)))))), ?_⟩
    have hs : z.length ≤ sizeLine := Nat.le_trans hl (by decide)
    refine ⟨_, rfl, _, _, rfl, ⟨hs, rfl⟩, _, rfl, by omega, by omega, fun D hD => ?_⟩
    have ej : (((z.length : Nat) : Int)).toNat = z.length := by omega
    rw [ej]
    refine lc_range (lo := 0) (n := z.length) (fun i H' => H' = upd H D (.lst (((List.range i).map (Wd.rot z)).map V.str))) rfl ?_ ?_
    · rintro i H' hi rfl
      have ei : (0 : Int) + (i : Int) = ((i : Nat) : Int) := by omega
      rw [ei]
      have hsum : (cutS z (some (i : Int)) none).length + (cutS z none (some (i : Int))).length ≤ sizeLine := by
        have e : (Wd.rot z i).length = (cutS z (some (i : Int)) none).length + (cutS z none (some (i : Int))).length := Ami.append_length _ _
        rw [← e, Wd.rot_length z i (Nat.le_of_lt hi)]; exact hs
      refine ⟨rfl, ?_⟩
      dsimp only [tYes]
      refine iteT ?_
      refine ⟨_, rfl, _, rfl, _, rfl, z, rfl, hs, _, rfl, _, rfl, _, rfl, z, rfl, hs, _, _, rfl, rfl, hsum, ?_⟩
      refine ⟨_, upd_same, ?_, ?_⟩
      · rw [List.length_map, List.length_map, List.length_range]
        exact Nat.lt_of_le_of_lt (by omega : i ≤ 1000) (by decide)
      · rw [upd_upd, List.range_succ, List.map_append, List.map_append]; rfl
    · rintro H' rfl
      exact k D _ (Same.upd hD) hD upd_same
theorem scBare : FnScope ["_law_item"] ["_law_item"] (defScope sBare) := ⟨rfl, rfl, rfl, by decide +kernel, rfl, by decide +kernel, by decide +kernel⟩
theorem ok_bare {f f1 : Addr} {fd fd1 : FuncData} (F : Fun K "_law_bare" "_law_bare" sBare f fd) (D1 : DefAt K mg "_law_turns" sTurns1 ["_law_item"] f1 fd1) (G1 : FnOk P w K mg base CX0 1 f1 fd1 ["_law_item"] spT1) : FnOk P w K mg base CX0 2 f fd ["_law_item"] spBare := by
  refine F.ok scBare (fun vs H Q E h => ?_) (fun cdv A outer s H vs Q E hr h => ?_)
  · obtain ⟨z, rfl, _⟩ := h
    rfl
  · obtain ⟨z, rfl, h0, hl, k⟩ := h
    refine ⟨_, pss_one (ps_ret (pe_cmpR op_eq (pe_bm PySem.F.plainAttrs_list PySem.F.slot_list_count PySem.F.type_list_count mt_tcount (pc D1 G1 hr (pa_cons (pv 0) pa_nil)) (pa_cons (pv 0) pa_nil)) pe_int (nomark _))), ?_⟩
    refine ⟨_, rfl, z, rfl, hl, fun L H' s' hL eL => ?_⟩
    refine ⟨.inl ⟨rfl, _, SqL.of eL⟩, _, rfl, L, turnsL z, z, rfl, rfl, SqL.of eL, rfl, ?_⟩
    have e : decide (V.int (((turnsL z).count z : Nat) : Int) = V.int 1) = decide ((turnsL z).count z = 1) := decide_eq_decide.mpr ⟨fun h => by
      have := V.int.inj h
      omega, fun h => by rw [h]; rfl⟩
    show Q (V.bl (decide (V.int (((turnsL z).count z : Nat) : Int) = V.int 1))) H'
    rw [e]
    exact k _ s'
end
end K49

set_option Elab.async false
set_option linter.all false
set_option maxRecDepth 100000
set_option maxHeartbeats 2000000
namespace K49.Rg
open PySem PySem.Spec PyProof.Rows L2 Ami K41m
theorem ix_seqK {X : Cx} {K0 : PySem.W.Frag} (hK : X.K = K0) : IxR X (rIx K0) := by
  subst hK
  exact ix_seq
theorem same_put {H H' : Hp} {a : Addr} {o : HO} (h : Same H H') (ha : H a = none) : Same H (upd H' a o) := by
  intro b p hb
  rw [upd_ne (ne_of_none hb ha)]
  exact h b p hb
theorem take_and {α : Type} {l : List α} {i : Nat} {c : α} (h : l[i]? = some c) : l.take (i + 1) = l.take i ++ [c] := by
  rw [List.take_succ, h]; rfl
/-- what is summed, as far as it goes -/
def parts (rs : List Int) (j : Nat) : List Int := ((List.range' 1 j).filter fun p => decide ((rs.length + 1) % p = 0)).map fun p : Nat => (p : Int) * rs.getD (p - 1) 0
theorem parts_all (rs : List Int) : (parts rs rs.length).sum = rep rs := rfl
theorem parts_length (rs : List Int) (j : Nat) : (parts rs j).length ≤ j := by
  unfold parts
  rw [List.length_map]
  exact Nat.le_trans (List.length_filter_le _ _) (by rw [List.length_range']; exact Nat.le_refl _)
theorem parts_succ (rs : List Int) (j : Nat) : parts rs (j + 1) = parts rs j ++ (if decide ((rs.length + 1) % (1 + j) = 0) = true then [((1 + j : Nat) : Int) * rs.getD j 0] else []) := by
  unfold parts
  rw [List.range'_1_concat, List.filter_append, List.map_append]
  congr 1
  rw [List.filter_cons]
  cases decide ((rs.length + 1) % (1 + j) = 0) with
  | true =>
    rw [if_pos rfl, if_pos rfl, List.filter_nil, List.map_cons, List.map_nil, Nat.add_sub_cancel_left]
  | false => rfl
/-- the numbers of rings for some sums -/
def spRin (K : PySem.W.Frag) : Sp := fun vs H Q _ => ∃ (a : Addr) (ts : List Int), vs = [.ref a] ∧ SqL K H a (ts.map V.int) ∧ ts.length ≤ 1000 ∧ ∀ (H' : Hp) (p : Addr), H p = none → Same H H' → H' p = some (.tup ((rings ts).map V.int)) → Q (.ref p) H'
section
variable {P : Program} {w : World} {K : PySem.W.Frag} {mg : Str → Option Value} {base : Heap}
abbrev nRin : List Str := ["sums", "rings", "length", "total", "repeated", "part"]
theorem scRin : FnScope nRin ["sums"] (defScope sRin) := ⟨rfl, rfl, rfl, by decide +kernel, rfl, by decide +kernel, by decide +kernel⟩
theorem ok_rin {f : Addr} {fd : FuncData} (F : Fun K "rings_in" "rings_in" sRin f fd) (T : Blt mg) : FnOk P w K mg base CX0 1 f fd ["sums"] (spRin K) := by
  refine F.ok scRin (fun vs H Q E h => ?_) (fun cdv A outer s H vs Q E hr h => ?_)
  · obtain ⟨a, ts, rfl, _⟩ := h
    rfl
  · obtain ⟨a, ts, rfl, hS, hlen, k⟩ := h
    refine ⟨_, pss_cons (ps_set (i := 1) scRin.nd rfl (Or.inr rfl) (pe_lst pa_nil))
      (pss_cons (ps_for PassesOwn.never rfl (pi_enumF (by rfl) T.enumerate (pa_cons (pv 0) pa_nil) (pk_cons pe_int pk_nil)) (pg_tup (by rfl) (pgs_cons (pg_name (i := 2) scRin.nd rfl (Or.inr rfl)) (pgs_cons (pg_name (i := 3) scRin.nd rfl (Or.inl rfl)) pgs_nil)))
        (pss_cons (ps_set (i := 4) scRin.nd rfl (Or.inl rfl) (pe_callB (cr_sum rfl) (by rfl) T.sum (by rfl) (pa_cons (pe_lc (own := [("part", 5)]) (g := gName 5) rfl scRin.nd (pi_range2 (by rfl) T.range (pa_cons pe_int (pa_cons (pv 2) pa_nil)))
            (blkOk_by (own := [("part", 5)]) (N := nRin) (sc := defScope sRin) (by decide +kernel)) (fun _ _ _ _ _ => pg_name (i := 5) scRin.nd rfl (Or.inl rfl))
            (fun _ _ _ _ _ => pts_one (pt_cmpR op_eq (pe_op op_mod (pv 2) (pv 5)) pe_int (nomark _))) (fun _ _ _ _ _ => pe_op op_mul (pv 5) (pe_ix (ix_seqK (K0 := K) rfl) (pv 1) (pe_op op_sub (pv 5) pe_int) (fun _ _ => rfl)))) pa_nil)))
        (pss_one (ps_expr (pe_bm PySem.F.plainAttrs_list PySem.F.slot_list_append PySem.F.type_list_append mt_append (pv 1) (pa_cons (pe_op op_fdiv (pe_op op_sub (pv 3) (pv 4)) (pv 2)) pa_nil))))))
      (pss_one (ps_ret (pe_tupleOf (by rfl) T.tuple (pv 1))))), ?_⟩
    refine ⟨Nat.zero_le _, fun R hR => ?_⟩
    refine ⟨_, rfl, a, ts.map V.int, 1, rfl, rfl, Same.seq (Same.upd hR) hS, by decide, by decide, ?_⟩
    refine for_it walk_enumF (fun i σ H' => ∃ v2 v3 v4 v5 : Option V, σ = [some (.ref a), some (.ref R), v2, v3, v4, v5] ∧ Same H H' ∧ H' R = some (.lst ((rings (ts.take i)).map V.int)))
      ⟨none, none, none, none, rfl, Same.upd hR, upd_same⟩ (fun i σ H' _ ⟨_, _, _, _, _, sm, _⟩ => Same.seq sm hS) ?_ ?_
    · rintro i x σ H1 H2 hi ⟨v2, v3, v4, v5, rfl, sm, eR⟩ ⟨C0, y, rfl, hC0, rfl, hy⟩
      rw [List.length_map] at hi
      rw [List.getElem?_map] at hy
      cases ht : ts[i]? with
      | none => rw [ht] at hy; cases hy
      | some t =>
        rw [ht] at hy
        cases hy
        have tT : (upd H1 C0 (.tup [.int (1 + (i : Nat)), V.int t])) C0 = some (.tup [.int (1 + (i : Nat)), V.int t]) := upd_same
        have sm2 : Same H (upd H1 C0 (.tup [.int (1 + (i : Nat)), V.int t])) := sm.trans (Same.upd hC0)
        have eR2 : (upd H1 C0 (.tup [.int (1 + (i : Nat)), V.int t])) R = some (.lst ((rings (ts.take i)).map V.int)) := Same.upd hC0 _ _ eR
        revert tT sm2 eR2
        generalize upd H1 C0 (.tup [.int (1 + (i : Nat)), V.int t]) = H2
        intro tT sm2 eR2
        refine ⟨C0, _, rfl, SqT.of tT, rfl, ?_⟩
        refine ⟨_, _, rfl, _, _, rfl, rfl, ?_⟩
        obtain ⟨rs, hrs, hrl⟩ : ∃ rs, rs = rings (ts.take i) ∧ rs.length = i := ⟨_, rfl, by rw [rings_length, List.length_take]; omega⟩
        rw [← hrs] at eR2
        refine ⟨_, rfl, 1, _, rfl, ⟨by decide, by decide, by omega, by omega⟩, fun C hC => ?_⟩
        have en : (1 + (i : Int) - 1).toNat = i := by omega
        rw [en]
        have nRC : R ≠ C := ne_of_none eR2 hC
        refine lc_range (lo := 1) (n := i) (fun j H' => H' = upd H2 C (.lst ((parts rs j).map V.int))) rfl ?_ ?_
        · rintro j H3 hj rfl
          have ej : (1 : Int) + (j : Int) = ((1 + j : Nat) : Int) := by omega
          rw [ej]
          refine ⟨rfl, _, rfl, _, rfl, _, _, rfl, rfl, (by omega), rfl, _, rfl, ?_⟩
          have e : decide (V.int ((1 + (i : Int)) % ((1 + j : Nat) : Int)) = V.int 0) = decide ((rs.length + 1) % (1 + j) = 0) := decide_eq_decide.mpr ⟨fun h => by
            have h2 : (1 + (i : Int)) % ((1 + j : Nat) : Int) = 0 := V.int.inj h
            have h3 : (((rs.length + 1) % (1 + j) : Nat) : Int) = 0 := by
              rw [hrl, Int.natCast_emod]
              rw [show ((i + 1 : Nat) : Int) = 1 + (i : Int) from by omega]; exact h2
            omega, fun h => by
            have h3 : (((rs.length + 1) % (1 + j) : Nat) : Int) = 0 := by rw [h]; rfl
            rw [hrl, Int.natCast_emod, show ((i + 1 : Nat) : Int) = 1 + (i : Int) from by omega] at h3
            rw [h3]⟩
          show if decide (V.int ((1 + (i : Int)) % ((1 + j : Nat) : Int)) = V.int 0) = true then _ else _
          rw [e, parts_succ]
          have hl : (parts rs j).length < sizeLine := Nat.lt_of_le_of_lt (parts_length rs j) (Nat.lt_of_le_of_lt (by omega : j ≤ 1000) (by decide))
          cases hm : decide ((rs.length + 1) % (1 + j) = 0) with
          | true =>
            refine iteT ?_
            have g : (rs.map V.int)[j]? = some (V.int (rs.getD j 0)) := by
              rw [List.getElem?_map, List.getElem?_eq_getElem (by omega : j < rs.length), List.getD_eq_getElem?_getD, List.getElem?_eq_getElem (by omega : j < rs.length)]; rfl
            refine ⟨_, rfl, _, rfl, _, rfl, _, _, rfl, rfl, .inl ⟨R, rs.map V.int, (j : Int), _, rfl, congrArg V.int (by omega), SqL.of (by rw [upd_ne nRC]; exact eR2), atI_nat g, ?_⟩⟩
            refine ⟨_, _, rfl, rfl, .inl ⟨by omega, by omega⟩, (parts rs j).map V.int, upd_same, by rw [List.length_map]; exact hl, ?_⟩
            rw [upd_upd, if_pos rfl, List.map_append]; rfl
          | false =>
            refine iteF ?_
            rw [if_neg Bool.false_ne_true, List.append_nil]
        rintro H3 rfl
        refine ⟨C, _, rfl, SqL.of upd_same, ?_⟩
        have eR3 : (upd H2 C (.lst ((parts rs i).map V.int))) R = some (.lst (rs.map V.int)) := by rw [upd_ne nRC]; exact eR2
        have sm3 : Same H (upd H2 C (.lst ((parts rs i).map V.int))) := sm2.trans (Same.upd hC)
        revert eR3 sm3
        generalize upd H2 C (.lst ((parts rs i).map V.int)) = H3
        intro eR3 sm3
        have ep : (parts rs i).sum = rep rs := by rw [← parts_all, hrl]
        rw [ep]
        refine ⟨_, rfl, .inl ⟨rfl, _, SqL.of eR3⟩, _, rfl, _, rfl, _, _, rfl, rfl, _, rfl, _, _, rfl, rfl, ⟨by omega, by omega⟩, R, _, _, rfl, rfl, eR3, by rw [List.length_map, hrl]; exact Nat.lt_of_le_of_lt (by omega : i ≤ 1000) (by decide), ?_⟩
        refine ⟨_, _, _, _, rfl, same_put sm3 hR, ?_⟩
        rw [upd_same, take_and ht, rings_snoc, ← hrs]
        unfold ringStep
        rw [List.map_append, hrl, show ((i + 1 : Nat) : Int) = 1 + (i : Int) from by omega]; rfl
    · rintro σ H1 ⟨v2, v3, v4, v5, rfl, sm, eR⟩
      rw [List.length_map, List.take_length] at eR
      refine ⟨_, rfl, .inl ⟨R, _, rfl, SqL.of eR, fun p hp => ?_⟩⟩
      have hp0 : H p = none := sm.free hp
      exact k _ p hp0 (sm.trans (Same.upd hp)) upd_same
end
end K49.Rg

set_option Elab.async false
set_option linter.all false
set_option maxRecDepth 100000
set_option maxHeartbeats 2000000
namespace K49.Rg
open PySem PySem.Spec PyProof.Rows L2 Ami K41m
theorem atI_last {α : Type} {l : List α} (h : 0 < l.length) : atI l (-1) = some l[l.length - 1] := by
  unfold atI ixN
  rw [if_neg (by decide), if_pos (by omega)]
  have e : ((-1 : Int) + (l.length : Int)).toNat = l.length - 1 := by omega
  rw [e]
  show l[l.length - 1]? = some l[l.length - 1]
  exact List.getElem?_eq_getElem (by omega)
/-- all numbers of rings of letters -/
def spAll : Sp := fun vs H Q _ => ∃ m n : Nat, vs = [.int m, .int n] ∧ m ≤ 1000 ∧ n ≤ 100 ∧ ∀ (H' : Hp) (p : Addr), H p = none → Same H H' → H' p = some (.tup ((rings (pows m n)).map V.int)) → Q (.ref p) H'
/-- the last of them -/
def spRings : Sp := fun vs H Q _ => ∃ m n : Nat, vs = [.int m, .int n] ∧ m ≤ 1000 ∧ 1 ≤ n ∧ n ≤ 100 ∧ ∀ (H' : Hp), Same H H' → Q (.int (last m n)) H'
section
variable {P : Program} {w : World} {K : PySem.W.Frag} {mg : Str → Option Value} {base : Heap}
theorem scAll : FnScope ["many", "length", "words", "number", "_"] ["many", "length"] (defScope sAllR) := ⟨rfl, rfl, rfl, by decide +kernel, rfl, by decide +kernel, by decide +kernel⟩
theorem ok_all {f f1 : Addr} {fd fd1 : FuncData} (F : Fun K "all_letter_rings" "all_letter_rings" sAllR f fd) (T : Blt mg) (D1 : DefAt K mg "rings_in" sRin ["sums"] f1 fd1) : FnOk P w K mg base CX0 2 f fd ["many", "length"] spAll := by
  have G1 : FnOk P w K mg base CX0 1 f1 fd1 ["sums"] (spRin K) := ok_rin D1.F T
  refine F.ok scAll (fun vs H Q E h => ?_) (fun cdv A outer s H vs Q E hr h => ?_)
  · obtain ⟨m, n, rfl, _⟩ := h
    rfl
  · obtain ⟨m, n, rfl, hm, hn, k⟩ := h
    have hr1 := hr.mono (j := 1) (by decide)
    refine ⟨_, pss_cons (ps_set (i := 2) scAll.nd rfl (Or.inl rfl) (pe_lst pa_nil))
      (pss_cons (ps_set (i := 3) scAll.nd rfl (Or.inl rfl) pe_int)
      (pss_cons (ps_for PassesOwn.never rfl (pi_range1 (by rfl) T.range (pa_cons (pv 1) pa_nil)) (pg_name (i := 4) scAll.nd rfl (Or.inl rfl))
        (pss_cons (ps_set (i := 3) scAll.nd rfl (Or.inl rfl) (pe_op op_mul (pv 3) (pv 0)))
        (pss_one (ps_expr (pe_bm PySem.F.plainAttrs_list PySem.F.slot_list_append PySem.F.type_list_append mt_append (pv 2) (pa_cons (pv 3) pa_nil))))))
      (pss_one (ps_ret (pc D1 G1 hr1 (pa_cons (pv 2) pa_nil)))))), ?_⟩
    refine ⟨Nat.zero_le _, fun R hR => ?_⟩
    refine ⟨_, rfl, _, rfl, by omega, by omega, ?_⟩
    rw [Int.toNat_natCast]
    refine for_range (lo := 0) (n := n) (fun i σ H' => ∃ v4 : Option V, σ = [some (.int m), some (.int n), some (.ref R), some (.int ((m ^ i : Nat) : Int)), v4] ∧ Same H H' ∧ H' R = some (.lst ((pows m i).map V.int)))
      ⟨none, rfl, Same.upd hR, upd_same⟩ ?_ ?_
    · rintro i σ H1 hi ⟨v4, rfl, sm, eR⟩
      refine ⟨_, rfl, _, rfl, _, _, rfl, rfl, .inr (by omega), ?_⟩
      have e : ((m ^ i : Nat) : Int) * (m : Int) = ((m ^ (i + 1) : Nat) : Int) := by rw [Nat.pow_succ, Int.natCast_mul]
      refine ⟨_, rfl, .inl ⟨rfl, _, SqL.of eR⟩, _, rfl, R, _, _, rfl, rfl, eR, by rw [List.length_map, pows_length]; exact Nat.lt_of_le_of_lt (by omega : i ≤ 100) (by decide), ?_⟩
      exact ⟨_, (by rw [← e]; rfl), same_put sm hR, by rw [upd_same, pows_succ, List.map_append, ← e]; rfl⟩
    · rintro σ H1 ⟨v4, rfl, sm, eR⟩
      refine ⟨_, rfl, R, pows m n, rfl, SqL.of eR, by rw [pows_length]; omega, fun H2 p hp s2 ep => ?_⟩
      exact k _ p (sm.free hp) (sm.trans s2) ep
theorem scRings : FnScope ["many", "length"] ["many", "length"] (defScope sRings) := ⟨rfl, rfl, rfl, by decide +kernel, rfl, by decide +kernel, by decide +kernel⟩
theorem ok_rings {f f1 f2 : Addr} {fd fd1 fd2 : FuncData} (F : Fun K "letter_rings" "letter_rings" sRings f fd) (T : Blt mg) (D1 : DefAt K mg "rings_in" sRin ["sums"] f1 fd1) (D2 : DefAt K mg "all_letter_rings" sAllR ["many", "length"] f2 fd2) :
    FnOk P w K mg base CX0 3 f fd ["many", "length"] spRings := by
  have G2 : FnOk P w K mg base CX0 2 f2 fd2 ["many", "length"] spAll := ok_all D2.F T D1
  refine F.ok scRings (fun vs H Q E h => ?_) (fun cdv A outer s H vs Q E hr h => ?_)
  · obtain ⟨m, n, rfl, _⟩ := h
    rfl
  · obtain ⟨m, n, rfl, hm, h1, hn, k⟩ := h
    have hr2 := hr.mono (j := 2) (by decide)
    refine ⟨_, pss_one (ps_ret (pe_ix ix_seq (pc D2 G2 hr2 (pa_cons (pv 0) (pa_cons (pv 1) pa_nil))) (pe_un un_neg pe_int) (fun _ _ => rfl))), ?_⟩
    refine ⟨_, rfl, _, rfl, m, n, rfl, hm, hn, fun H1 p hp s1 ep => ?_⟩
    have hl : (rings (pows m n)).length = n := rings_pows m n
    have e : (rings (pows m n))[(rings (pows m n)).length - 1]? = some (last m n) := by
      unfold last
      rw [hl, List.getD_eq_getElem?_getD, List.getElem?_eq_getElem (by omega : n - 1 < (rings (pows m n)).length)]; rfl
    refine ⟨_, rfl, .inr (.inl ⟨p, _, -1, V.int (last m n), rfl, rfl, SqT.of ep, ?_, k _ s1⟩)⟩
    have hl2 : ((rings (pows m n)).map V.int).length = n := by rw [List.length_map, hl]
    rw [atI_last (by omega)]
    refine congrArg some ?_
    have e3 : ((rings (pows m n)).map V.int)[((rings (pows m n)).map V.int).length - 1]? = some (V.int (last m n)) := by
      rw [List.length_map, List.getElem?_map, e]; rfl
    rw [List.getElem?_eq_getElem (by omega)] at e3
    exact Option.some.inj e3
end
end K49.Rg

set_option Elab.async false
set_option linter.all false
set_option maxRecDepth 100000
set_option maxHeartbeats 4000000
/-! how many words the book has: as many as there are rings -/
namespace K49
open PySem PySem.Spec PyProof.Rows L2 Ami
/-- the letters ascend -/
abbrev Inc (S : List Nat) : Prop := S.Pairwise (· < ·)
theorem Inc.nd {S : List Nat} (h : Inc S) : S.Nodup := h.imp fun h => Nat.ne_of_lt h
theorem wd_cons (S : List Nat) (d : Nat) (r : List Nat) : (Wd.wd S (d :: r)).cps.toList = (Wd.wd S r).cps.toList ++ [S.getD d 0] := by
  unfold Wd.wd
  rw [List.toList_toArray, List.toList_toArray, List.map_cons, List.reverse_cons]
theorem getD_lt {S : List Nat} (h : Inc S) {i j : Nat} (hij : i < j) (hj : j < S.length) : S.getD i 0 < S.getD j 0 := by
  rw [List.getD_eq_getElem?_getD, List.getD_eq_getElem?_getD, List.getElem?_eq_getElem (by omega), List.getElem?_eq_getElem hj]
  exact List.pairwise_iff_getElem.mp h i j (by omega) hj hij
theorem app_lt : ∀ (a b x y : List Nat), a.length = b.length → a < b → a ++ x < b ++ y
  | [], [], _, _, _, h => absurd h (List.lt_irrefl _)
  | [], _ :: _, _, _, h, _ => nomatch h
  | _ :: _, [], _, _, h, _ => nomatch h
  | p :: a, q :: b, x, y, h, hlt => by
    rw [List.cons_append, List.cons_append]
    rcases List.cons_lt_cons_iff.mp hlt with h1 | ⟨h1, h2⟩
    · exact List.cons_lt_cons_iff.mpr (.inl h1)
    · exact List.cons_lt_cons_iff.mpr (.inr ⟨h1, app_lt a b x y (by simpa using h) h2⟩)
/-- the words of a length ascend -/
theorem words_up {S : List Nat} (h : Inc S) : ∀ n, (wordsS S n).Pairwise fun a b => a.cps.toList < b.cps.toList
  | 0 => List.pairwise_singleton _ _
  | n + 1 => by
    have ih := words_up h n
    unfold wordsS at ih ⊢
    show (((K02m.W S.length n).flatMap fun r => (List.range S.length).map (· :: r)).map (Wd.wd S)).Pairwise _
    rw [List.pairwise_map] at ih ⊢
    rw [List.pairwise_flatMap]
    constructor
    · intro r _
      rw [List.pairwise_map]
      refine List.pairwise_lt_range.imp_of_mem fun {i j} _ hj hij => ?_
      rw [wd_cons, wd_cons]
      exact List.append_left_lt (List.cons_lt_cons_iff.mpr (.inl (getD_lt h hij (List.mem_range.mp hj))))
    · refine ih.imp_of_mem fun {r q} hr hq hlt x hx y hy => ?_
      obtain ⟨i, _, rfl⟩ := List.mem_map.mp hx
      obtain ⟨j, _, rfl⟩ := List.mem_map.mp hy
      rw [wd_cons, wd_cons]
      have lr := (K02m.w_mem n r hr).1
      have lq := (K02m.w_mem n q hq).1
      have l1 : (Wd.wd S r).cps.toList.length = (Wd.wd S q).cps.toList.length := by rw [len_toList, len_toList, Wd.wd_length, Wd.wd_length, lr, lq]
      generalize (Wd.wd S r).cps.toList = a at hlt l1
      generalize (Wd.wd S q).cps.toList = b at hlt l1
      exact app_lt a b _ _ l1 hlt
theorem words_nd {S : List Nat} (h : Inc S) (n : Nat) : (wordsS S n).Nodup := (words_up h n).imp fun {a b} hlt e => by
  rw [e] at hlt
  exact List.lt_irrefl _ hlt
theorem words_Up {S : List Nat} (h : Inc S) (n : Nat) : Up (wordsS S n) := (words_up h n).imp fun {a b} hlt => List.lt_asymm hlt
/-- the least turn -/
noncomputable def lt1 (x : Str) : Str := by
  classical exact if h : x.cps.toList ≠ [] then (least_ex h).choose else x
theorem lt1_ok {x : Str} (h : x.cps.toList ≠ []) : Turn x.cps.toList (lt1 x).cps.toList ∧ leastB (lt1 x) = true := by
  unfold lt1
  rw [dif_pos h]
  exact (least_ex h).choose_spec
theorem least_uniq {x y : Str} (hx : 0 < x.length) (hy : 0 < y.length) (t : Turn x.cps.toList y.cps.toList) (lx : leastB x = true) (ly : leastB y = true) : x = y := by
  have a := (least_iff hx).mp lx _ t
  have b := (least_iff hy).mp ly _ t.symm
  exact list_inj (List.le_antisymm (List.not_lt.mp a) (List.not_lt.mp b))
theorem prim_ne {x : Str} (h : Rng.Prim x.cps.toList) : 0 < x.length := by
  have := List.length_pos_iff.mpr h.1
  rw [len_toList] at this
  exact this
theorem good_iff {z : Str} (hz : 0 < z.length) : goodB z = true ↔ Rng.Prim z.cps.toList ∧ leastB z = true := by
  have ne : z.cps.toList ≠ [] := fun e => by
    have := congrArg List.length e
    rw [len_toList, List.length_nil] at this
    omega
  unfold goodB
  rw [Bool.and_eq_true, Bool.not_eq_true', prim_of ne]
/-- the words that are no powers -/
def primW (S : List Nat) (n : Nat) : List Str := (wordsS S n).filter fun z => !Wd.powB z
theorem mem_primW {S : List Nat} {n : Nat} (hS : 0 < S.length) (hn : 0 < n) {z : Str} : z ∈ primW S n ↔ (z.length = n ∧ ∀ c ∈ z.cps.toList, c ∈ S) ∧ Rng.Prim z.cps.toList := by
  unfold primW
  rw [List.mem_filter]
  constructor
  · rintro ⟨h1, h2⟩
    have w := words_in hS h1
    have ne : z.cps.toList ≠ [] := fun e => by
      have := congrArg List.length e
      rw [len_toList, List.length_nil] at this
      omega
    exact ⟨w, (prim_of ne).mp (by simpa using h2)⟩
  · rintro ⟨⟨h1, h2⟩, h3⟩
    have := words_all (S := S) (w := z.cps.toList) (n := n) h2 (by rw [len_toList]; exact h1)
    rw [str_bk] at this
    exact ⟨this, by rw [(prim_of h3.1).mpr h3]; rfl⟩
/-- each ring has as many words as letters -/
theorem good_mul {S : List Nat} {n : Nat} (hI : Inc S) (hS : 0 < S.length) (hn : 0 < n) : (primW S n).length = ((wordsS S n).filter goodB).length * n := by
  classical
  have nd : (wordsS S n).Nodup := words_nd hI n
  have key := Rng.sum_split lt1 (fun _ => 1) (D := (wordsS S n).filter goodB) (nd.filter _) (l := primW S n) fun x hx => by
    obtain ⟨⟨h1, h2⟩, hp⟩ := (mem_primW hS hn).mp hx
    obtain ⟨t, l⟩ := lt1_ok hp.1
    have pz := t.prim hp
    have zl : (lt1 x).length = n := by have := t.len; rw [len_toList, len_toList] at this; omega
    refine List.mem_filter.mpr ⟨?_, (good_iff (by omega)).mpr ⟨pz, l⟩⟩
    have := words_all (S := S) (w := (lt1 x).cps.toList) (n := n) (fun c hc => h2 c (t.mem.mp hc)) (by rw [len_toList]; exact zl)
    rw [str_bk] at this
    exact this
  rw [Rng.sumBy_const, Nat.mul_one] at key
  rw [key]
  have e : ∀ d ∈ (wordsS S n).filter goodB, Rng.sumBy (fun _ => 1) ((primW S n).filter fun w => decide (lt1 w = d)) = n := fun d hd => by
    obtain ⟨dm, dg⟩ := List.mem_filter.mp hd
    obtain ⟨dl, dS⟩ := words_in hS dm
    obtain ⟨dp, dle⟩ := (good_iff (by omega)).mp dg
    rw [Rng.sumBy_const, Nat.mul_one]
    have p : ((primW S n).filter fun w => decide (lt1 w = d)).Perm (turnsL d) := by
      refine Rng.perm_of (((words_nd hI n).filter _).filter _) (turnsL_nodup dp) fun x => ?_
      rw [List.mem_filter, decide_eq_true_eq, turnsL_turn (by omega)]
      constructor
      · rintro ⟨hx, rfl⟩
        obtain ⟨_, hp⟩ := (mem_primW hS hn).mp hx
        exact (lt1_ok hp.1).1.symm
      · intro t
        have xp := t.prim dp
        have xl : x.length = n := by have := t.len; rw [len_toList, len_toList] at this; omega
        refine ⟨(mem_primW hS hn).mpr ⟨⟨xl, fun c hc => dS c (t.mem.mp hc)⟩, xp⟩, ?_⟩
        obtain ⟨t2, l2⟩ := lt1_ok xp.1
        have yl : (lt1 x).length = n := by have := t2.len; rw [len_toList, len_toList] at this; omega
        exact (least_uniq (by omega) (by omega) (t.trans t2) dle l2).symm
    rw [p.length_eq, turnsL_len, dl]
  rw [Rng.sumBy_congr e, Rng.sumBy_const]
/-- a row of symbols as a word -/
def phi (S : List Nat) (w : List Rng.Sym) : Str := ⟨(w.map fun x => S.getD x.2 0).toArray⟩
theorem phi_list (S : List Nat) (w : List Rng.Sym) : (phi S w).cps.toList = w.map fun x => S.getD x.2 0 := List.toList_toArray
theorem good_sym {m : Nat} {w : List Rng.Sym} (g : Rng.good [m] w) : ∀ x ∈ w, x.1 = 1 ∧ x.2 < m := fun x hx => by
  obtain ⟨a, b⟩ := g x hx
  by_cases e : x.1 = 1
  · rw [e] at b; exact ⟨e, b⟩
  · have : ([m] : List Nat).getD (x.1 - 1) 0 = 0 := by
      rw [List.getD_eq_getElem?_getD, List.getElem?_eq_none (by show 1 ≤ x.1 - 1; omega)]; rfl
    rw [this] at b
    omega
theorem tot_len {m : Nat} : ∀ {w : List Rng.Sym}, Rng.good [m] w → Rng.tot w = w.length
  | [], _ => rfl
  | x :: w, g => by
    have h1 := (good_sym g x List.mem_cons_self).1
    have ih := tot_len (w := w) fun y hy => g y (List.mem_cons_of_mem _ hy)
    show x.1 + Rng.tot w = w.length + 1
    omega
theorem getD_inj {S : List Nat} (h : Inc S) {i j : Nat} (hi : i < S.length) (hj : j < S.length) (e : S.getD i 0 = S.getD j 0) : i = j := by
  rcases Nat.lt_trichotomy i j with l | l | l
  · have := getD_lt h l hj; omega
  · exact l
  · have := getD_lt h l hi; omega
theorem map_inj {S : List Nat} (h : Inc S) : ∀ {w v : List Rng.Sym}, Rng.good [S.length] w → Rng.good [S.length] v → w.map (fun x => S.getD x.2 0) = v.map (fun x => S.getD x.2 0) → w = v
  | [], [], _, _, _ => rfl
  | [], _ :: _, _, _, e => by simp at e
  | _ :: _, [], _, _, e => by simp at e
  | x :: w, y :: v, gw, gv, e => by
    rw [List.map_cons, List.map_cons] at e
    injection e with e1 e2
    obtain ⟨x1, x2⟩ := good_sym gw x List.mem_cons_self
    obtain ⟨y1, y2⟩ := good_sym gv y List.mem_cons_self
    have e3 := getD_inj h x2 y2 e1
    have e4 : x = y := Prod.ext (x1.trans y1.symm) e3
    rw [e4, map_inj h (fun z hz => gw z (List.mem_cons_of_mem _ hz)) (fun z hz => gv z (List.mem_cons_of_mem _ hz)) e2]
theorem good_part {u : List Nat} {w v : List Rng.Sym} (g : Rng.good u w) (h : ∀ x ∈ v, x ∈ w) : Rng.good u v := fun x hx => g x (h x hx)
theorem prim_phi {S : List Nat} (h : Inc S) {w : List Rng.Sym} (g : Rng.good [S.length] w) : Rng.Prim (phi S w).cps.toList ↔ Rng.Prim w := by
  rw [phi_list]
  by_cases hw : w = []
  · subst hw
    constructor
    · rintro ⟨a, _⟩; exact absurd rfl a
    · rintro ⟨a, _⟩; exact absurd rfl a
  rw [Rng.prim_iff hw, Rng.prim_iff (by simpa using hw), List.length_map]
  have key : ∀ j, ((w.map fun x => S.getD x.2 0).drop j ++ (w.map fun x => S.getD x.2 0).take j = w.map fun x => S.getD x.2 0) ↔ w.drop j ++ w.take j = w := fun j => by
    rw [← List.map_drop, ← List.map_take, ← List.map_append]
    constructor
    · intro e
      refine map_inj h (good_part g fun x hx => ?_) g e
      rcases List.mem_append.mp hx with hx | hx
      · exact List.mem_of_mem_drop hx
      · exact List.mem_of_mem_take hx
    · intro e; rw [e]
  simp only [key]
theorem prim_rings {S : List Nat} {n : Nat} (hI : Inc S) (hS : 0 < S.length) (hn : 0 < n) : (primW S n).length = n * Rng.q [S.length] n := by
  have e1 : Rng.sumBy Rng.first (Rng.P [S.length] n) = (Rng.P [S.length] n).length := by
    have : ∀ w ∈ Rng.P [S.length] n, Rng.first w = 1 := fun w hw => by
      obtain ⟨g, _, p⟩ := Rng.mem_P.mp hw
      cases w with
      | nil => exact absurd rfl p.1
      | cons x w => exact (good_sym g x List.mem_cons_self).1
    rw [Rng.sumBy_congr this, Rng.sumBy_const, Nat.mul_one]
  rw [← Rng.P_first, e1]
  have p : (primW S n).Perm ((Rng.P [S.length] n).map (phi S)) := by
    refine Rng.perm_of ((words_nd hI n).filter _) ?_ fun x => ?_
    · unfold List.Nodup
      rw [List.pairwise_map]
      refine (Rng.nodup_P [S.length] n).imp_of_mem fun {a b} ha hb hab e => hab ?_
      have := congrArg (fun s : Str => s.cps.toList) e
      simp only [phi_list] at this
      exact map_inj hI (Rng.mem_P.mp ha).1 (Rng.mem_P.mp hb).1 this
    · rw [mem_primW hS hn]
      constructor
      · rintro ⟨⟨xl, xS⟩, xp⟩
        obtain ⟨q, h1, h2, h3⟩ := digits xS
        have gq : Rng.good [S.length] (q.map fun d => ((1, d) : Rng.Sym)) := fun y hy => by
          obtain ⟨d, hd, rfl⟩ := List.mem_map.mp hy
          exact ⟨Nat.le_refl 1, h2 d hd⟩
        have e : phi S (q.map fun d => ((1, d) : Rng.Sym)) = x := list_inj (by rw [phi_list, List.map_map]; exact h3)
        refine List.mem_map.mpr ⟨_, Rng.mem_P.mpr ⟨gq, ?_, (prim_phi hI gq).mp (by rw [e]; exact xp)⟩, e⟩
        rw [tot_len gq, List.length_map, h1, len_toList, xl]
      · intro hx
        obtain ⟨w, hw, rfl⟩ := List.mem_map.mp hx
        obtain ⟨g, t, p⟩ := Rng.mem_P.mp hw
        refine ⟨⟨?_, fun c hc => ?_⟩, (prim_phi hI g).mpr p⟩
        · have := len_toList (phi S w)
          rw [phi_list, List.length_map] at this
          rw [← this, ← tot_len g, t]
        · rw [phi_list] at hc
          obtain ⟨y, hy, rfl⟩ := List.mem_map.mp hc
          have := (good_sym g y hy).2
          rw [List.getD_eq_getElem?_getD, List.getElem?_eq_getElem this]
          exact List.getElem_mem this
  rw [p.length_eq, List.length_map]
/-- as many as there are rings -/
theorem good_count {S : List Nat} {n : Nat} (hI : Inc S) (hS : 0 < S.length) (hn : 0 < n) : (((wordsS S n).filter goodB).length : Int) = K41m.last S.length n := by
  have e : ((wordsS S n).filter goodB).length = Rng.q [S.length] n := by
    have a := good_mul hI hS hn
    rw [prim_rings hI hS hn, Nat.mul_comm] at a
    exact (Nat.eq_of_mul_eq_mul_right hn a).symm
  rw [e]
  unfold K41m.last
  rw [Rng.letters_are]
  have h := Rng.at_range (fun k => (Rng.q [S.length] k : Int)) (N := n) (n := n) hn (Nat.le_refl _)
  rw [List.getD_eq_getElem?_getD, h]; rfl
end K49

set_option Elab.async false
set_option linter.all false
set_option maxRecDepth 100000
set_option maxHeartbeats 2000000
/-! all words of a length, by the law -/
namespace Ami
open PySem PySem.Spec PyProof.Rows L2
theorem take_and {α : Type} {l : List α} {i : Nat} {c : α} (h : l[i]? = some c) : l.take (i + 1) = l.take i ++ [c] := by
  rw [List.take_succ, h]; rfl
end Ami
namespace K49.Al
open PySem PySem.Spec PyProof.Rows L2 Ami K02m K49.Wd
/-- the words that come of one row by one sign more -/
def growV (S : List Nat) (r : List Nat) : List V := (List.range S.length).map fun d => V.str (wd S (d :: r))
theorem wd_cons (S : List Nat) (d : Nat) (r : List Nat) : wd S (d :: r) = wd S r ++ ⟨#[S.getD d 0]⟩ := by
  apply str_ext
  show (((d :: r).map fun d => S.getD d 0).reverse) = ((wd S r).cps ++ #[S.getD d 0]).toList
  rw [Array.toList_append, List.map_cons, List.reverse_cons]; rfl
theorem words_succ (S : List Nat) (n : Nat) : wordsOf S (n + 1) = (K02m.W S.length n).flatMap (growV S) := by
  unfold Wd.wordsOf
  show ((K02m.W S.length n).flatMap _).map _ = _
  rw [List.map_flatMap]
  congr 1
  funext r
  unfold growV
  rw [List.map_map]; rfl
/-- all words of a length, in order -/
def spAll : Sp := fun vs H Q _ => ∃ (S : List Nat) (n : Nat), vs = [.str ⟨S.toArray⟩, .int n] ∧ 1 ≤ S.length ∧ S.length ≤ 10 ∧ n ≤ 1000 ∧ S.length ^ n ≤ 100000 ∧ ∀ D H', H D = none → Same H H' → H' D = some (.lst (wordsOf S n)) → Q (.ref D) H'
section
variable {P : Program} {w : World} {K : PySem.W.Frag} {mg : Str → Option Value} {base : Heap}
theorem scAll : FnScope ["_law_signs", "_law_size", "_law_found", "_law_turn", "_law_longer", "_law_word", "_law_sign"] ["_law_signs", "_law_size"] (defScope sAll) := ⟨rfl, rfl, rfl, by decide +kernel, rfl, by decide +kernel, by decide +kernel⟩
theorem grow_length (S r : List Nat) : (growV S r).length = S.length := by unfold growV; rw [List.length_map, List.length_range]
theorem flat_length (S : List Nat) (l : List (List Nat)) : (l.flatMap (growV S)).length = l.length * S.length := by
  induction l with
  | nil => simp
  | cons r l ih => rw [List.flatMap_cons, List.length_append, ih, grow_length, List.length_cons, Nat.succ_mul]; omega
theorem ok_all {f : Addr} {fd : FuncData} (F : Fun K "_law_all_words" "_law_all_words" sAll f fd) (T : Blt mg) : FnOk P w K mg base CX0 1 f fd ["_law_signs", "_law_size"] spAll := by
  refine F.ok scAll (fun vs H Q E h => ?_) (fun cdv A outer s H vs Q E hr h => ?_)
  · obtain ⟨S, n, rfl, _⟩ := h
    rfl
  · obtain ⟨S, n, rfl, h1, h10, hn, hp, k⟩ := h
    refine ⟨_, pss_cons (ps_set (i := 2) scAll.nd rfl (Or.inl rfl) (pe_lst (pa_cons pe_str pa_nil)))
      (pss_cons (ps_for PassesOwn.never rfl (pi_range1 (by rfl) T.range (pa_cons (pv 1) pa_nil)) (pg_name (i := 3) scAll.nd rfl (Or.inl rfl))
        (pss_cons (ps_set (i := 4) scAll.nd rfl (Or.inl rfl) (pe_lst pa_nil))
        (pss_cons (ps_for PassesOwn.never rfl (pi_list (pv 2)) (pg_name (i := 5) scAll.nd rfl (Or.inr rfl))
          (pss_one (ps_expr (pe_bm PySem.F.plainAttrs_list PySem.F.slot_list_extend PySem.F.type_list_extend mt_extend (pv 4) (pa_cons
            (pe_lc (own := [("_law_sign", 6)]) (g := gName 6) (tt := tYes) rfl scAll.nd (pi_str (pv 0)) (blkOk_by (own := [("_law_sign", 6)]) (N := ["_law_signs", "_law_size", "_law_found", "_law_turn", "_law_longer", "_law_word", "_law_sign"]) (sc := defScope sAll) (by decide +kernel))
              (fun _ _ _ _ _ => pg_name (i := 6) scAll.nd rfl (Or.inl rfl)) (fun _ _ _ _ _ => pts_nil) (fun _ _ _ _ _ => pe_op op_add_str (pv 5) (pv 6))) pa_nil)))))
        (pss_one (ps_set (i := 2) scAll.nd rfl (Or.inl rfl) (pv 4))))))
      (pss_one (ps_ret (pv 2)))), ?_⟩
    have hw : ∀ k, k ≤ n → S.length ^ k ≤ 100000 := fun k hk => Nat.le_trans (Nat.pow_le_pow_right h1 hk) hp
    refine ⟨(by show 1 ≤ sizeLine; decide), fun D0 hD0 => ?_⟩
    refine ⟨_, rfl, _, rfl, by omega, by omega, ?_⟩
    rw [Int.toNat_natCast]
    have e0 : ([V.str (Str.ofString "")] : List V) = wordsOf S 0 := by
      have e3 : (Str.ofString "").cps.toList = [] := by decide +kernel
      have e4 : wd S [] = Str.ofString "" := str_ext e3.symm
      show [V.str (Str.ofString "")] = [V.str (wd S [])]
      rw [e4]
    refine for_range (lo := 0) (n := n) (fun i σ H' => ∃ (D : Addr) (v3 v4 v5 : Option V), σ = [some (.str ⟨S.toArray⟩), some (.int n), some (.ref D), v3, v4, v5, none] ∧ H D = none ∧ Same H H' ∧ H' D = some (.lst (wordsOf S i)))
      ⟨D0, none, none, none, rfl, hD0, Same.upd hD0, by rw [← e0]; exact upd_same⟩ ?_ ?_
    · rintro i σ H1 hi ⟨D, v3, v4, v5, rfl, hD, s1, t1⟩
      refine ⟨(by show 0 ≤ sizeLine; decide), fun L hL => ?_⟩
      have hL0 : H L = none := by
        cases e : H L with
        | none => rfl
        | some o => rw [s1 _ _ e] at hL; cases hL
      have nDL : D ≠ L := ne_of_none t1 hL
      refine ⟨_, rfl, D, rfl, ⟨_, SqL.of (by rw [upd_ne nDL]; exact t1)⟩, ?_⟩
      refine for_list (K := K) (a := D) (xs := wordsOf S i) (fun j σ H' => ∃ v5 : Option V, σ = [some (.str ⟨S.toArray⟩), some (.int n), some (.ref D), some (.int (0 + i)), some (.ref L), v5, none] ∧ Same H H' ∧ H' D = some (.lst (wordsOf S i)) ∧ H' L = some (.lst (((K02m.W S.length i).take j).flatMap (growV S))))
        ⟨_, rfl, same_put s1 hL0, by rw [upd_ne nDL]; exact t1, upd_same⟩ (fun _ _ _ _ ⟨_, _, _, t, _⟩ => SqL.of t) ?_ ?_
      · rintro j x σ H2 hx ⟨v5, rfl, s2, t2, u2⟩
        unfold Wd.wordsOf at hx
        rw [List.getElem?_map] at hx
        obtain ⟨r, hr, rfl⟩ := Option.map_eq_some_iff.mp hx
        have mr := w_mem i r (List.mem_of_getElem? hr)
        have hw := wd_length S r
        refine ⟨_, rfl, .inl ⟨rfl, _, SqL.of u2⟩, _, rfl, _, rfl, fun C hC => ?_⟩
        have hC0 : H C = none := by
          cases e : H C with
          | none => rfl
          | some o => rw [s2 _ _ e] at hC; cases hC
        have nDC : D ≠ C := ne_of_none t2 hC
        have nLC : L ≠ C := ne_of_none u2 hC
        refine lc_it walk_str (fun d H' => H' = upd H2 C (.lst ((growV S r).take d))) rfl (fun _ _ _ _ => trivial) ?_ ?_
        · rintro d y H3 H4 hd rfl ⟨rfl, c, hc, rfl⟩
          refine ⟨rfl, ?_⟩
          dsimp only [tYes]
          refine iteT ?_
          have hd' : d < S.length := by
            have : d < S.toArray.size := hd
            rwa [List.size_toArray] at this
          have hc2 : S[d]? = some c := by rw [← hc]; exact (List.getElem?_toArray (xs := S) (i := d)).symm
          have ec : S.getD d 0 = c := by rw [List.getD_eq_getElem?_getD, hc2]; rfl
          have eg : (growV S r)[d]? = some (V.str (wd S r ++ ⟨#[c]⟩)) := by
            unfold growV
            rw [List.getElem?_map, List.getElem?_range hd', Option.map_some, wd_cons, ec]
          refine ⟨_, rfl, _, rfl, _, _, rfl, rfl, ?_, _, upd_same, ?_, ?_⟩
          · show (wd S r).length + 1 ≤ sizeLine
            rw [hw]
            exact Nat.le_trans (by omega : r.length + 1 ≤ 1001) (by decide)
          · rw [List.length_take]
            exact Nat.lt_of_le_of_lt (by omega : min d (growV S r).length ≤ 10) (by decide)
          · rw [upd_upd, take_and eg]
        · rintro H3 rfl
          have eT : (growV S r).take S.toArray.size = growV S r := List.take_of_length_le (by rw [grow_length, List.size_toArray]; exact Nat.le_refl _)
          have eS : (⟨S.toArray⟩ : Str).cps.size = S.toArray.size := rfl
          rw [eS, eT]
          have lj : j < (K02m.W S.length i).length := (List.getElem?_eq_some_iff.mp hr).1
          have lw : (K02m.W S.length i).length ≤ 100000 := by rw [w_length]; exact Nat.le_trans (Nat.pow_le_pow_right h1 (Nat.le_of_lt hi)) hp
          refine ⟨L, C, _, _, rfl, rfl, by rw [upd_ne nLC]; exact u2, upd_same, ?_, ?_⟩
          · rw [flat_length, grow_length, List.length_take]
            have hm : min j (K02m.W S.length i).length * S.length ≤ 100000 * 10 := Nat.mul_le_mul (by omega) h10
            refine Nat.le_trans (m := 100000 * 10 + 10) (by omega) (by rw [sizeLine_eq]; omega)
          · refine ⟨_, rfl, same_put (same_put s2 hC0) hL0, by rw [upd_ne nDL, upd_ne nDC]; exact t2, ?_⟩
            rw [upd_same, take_and hr, List.flatMap_append, List.flatMap_singleton]
      · rintro σ H2 ⟨v5, rfl, s2, t2, u2⟩
        rw [words_length, List.take_length, ← words_succ] at u2
        exact ⟨_, rfl, L, _, _, _, rfl, hL0, s2, u2⟩
    · rintro σ H1 ⟨D, v3, v4, v5, rfl, hD, s1, t1⟩
      exact ⟨_, rfl, k D _ hD s1 t1⟩
end
end K49.Al

set_option Elab.async false
set_option linter.all false
set_option maxRecDepth 100000
set_option maxHeartbeats 4000000
/-! the law's own look at beginnings and ends -/
namespace K49
open PySem PySem.Spec PyProof.Rows L2 Ami
abbrev pre (w : Str) (a : Nat) : Str := cutS w none (some (a : Int))
abbrev suf (w : Str) (a : Nat) : Str := cutS w (some (a : Int)) none
/-- the keys of kvs are these cuts -/
def Keys (key : Str → Nat → Str) (kvs : List (Key × V)) (P : Str → Prop) : Prop := ∀ z, (valV kvs (.inr z)).isSome = true ↔ P z
theorem Keys.put {key : Str → Nat → Str} {kvs : List (Key × V)} {P : Str → Prop} (h : Keys key kvs P) (z : Str) (v : V) : Keys key (putK kvs (.inr z) v) (fun x => P x ∨ x = z) := fun x => by
  rw [valV_put]
  by_cases e : (Sum.inr x : Key) = .inr z
  · rw [if_pos e]
    have : x = z := by cases e; rfl
    exact ⟨fun _ => .inr this, fun _ => rfl⟩
  · rw [if_neg e, h x]
    exact ⟨.inl, fun q => q.elim id fun q => absurd (congrArg Sum.inr q) e⟩
theorem Keys.imp {key : Str → Nat → Str} {kvs : List (Key × V)} {P Q : Str → Prop} (h : Keys key kvs P) (k : ∀ x, P x ↔ Q x) : Keys key kvs Q := fun x => (h x).trans (k x)
/-- the cuts of the words ahead, and of the word at hand up to a place -/
def upTo (key : Str → Nat → Str) (ws : List Str) (w : Str) (j : Nat) (z : Str) : Prop := isCut key ws z ∨ ∃ a, 1 ≤ a ∧ a < 1 + j ∧ z = key w a
theorem upTo_succ {key : Str → Nat → Str} {ws : List Str} {w : Str} {j : Nat} {z : Str} : (upTo key ws w j z ∨ z = key w (1 + j)) ↔ upTo key ws w (j + 1) z := by
  unfold upTo
  constructor
  · rintro ((h | ⟨a, h1, h2, h3⟩) | h)
    · exact .inl h
    · exact .inr ⟨a, h1, by omega, h3⟩
    · exact .inr ⟨1 + j, by omega, by omega, h⟩
  · rintro (h | ⟨a, h1, h2, h3⟩)
    · exact .inl (.inl h)
    · by_cases e : a = 1 + j
      · subst e; exact .inr h3
      · exact .inl (.inr ⟨a, h1, by omega, h3⟩)
theorem upTo_all {key : Str → Nat → Str} {ws : List Str} {w : Str} {i j : Nat} {z : Str} (hw : ws[i]? = some w) (hj : 1 + j = max 1 w.length) : upTo key (ws.take i) w j z ↔ isCut key (ws.take (i + 1)) z := by
  unfold upTo isCut
  have et : ws.take (i + 1) = ws.take i ++ [w] := by rw [List.take_succ, hw]; rfl
  rw [et]
  constructor
  · rintro (⟨v, hv, a, h1, h2, h3⟩ | ⟨a, h1, h2, h3⟩)
    · exact ⟨v, List.mem_append_left _ hv, a, h1, h2, h3⟩
    · exact ⟨w, List.mem_append_right _ List.mem_cons_self, a, h1, by omega, h3⟩
  · rintro ⟨v, hv, a, h1, h2, h3⟩
    rcases List.mem_append.mp hv with hv | hv
    · exact .inl ⟨v, hv, a, h1, h2, h3⟩
    · rw [List.mem_singleton.mp hv] at h2 h3
      exact .inr ⟨a, h1, by omega, h3⟩
def spApart (K : PySem.W.Frag) : Sp := fun vs H Q _ => ∃ (t : Addr) (ws : List Str) (n : Nat), vs = [.ref t] ∧ SqT K H t (ws.map V.str) ∧ (∀ w ∈ ws, w.length = n) ∧ ws.length ≤ 3000 ∧ n ≤ 100 ∧ 1 ≤ n ∧ ∀ H', Same H H' → Q (.bl (freeB ws)) H'
section
variable {P : Program} {w : World} {K : PySem.W.Frag} {mg : Str → Option Value} {base : Heap}
abbrev nAp : List Str := ["_law_words", "_law_heads", "_law_tails", "_law_item", "_law_k"]
theorem scAp : FnScope nAp ["_law_words"] (defScope sApart) := ⟨rfl, rfl, rfl, by decide +kernel, rfl, by decide +kernel, by decide +kernel⟩
theorem ok_apart {f : Addr} {fd : FuncData} (F : Fun K "_law_apart" "_law_apart" sApart f fd) (T : Blt mg) : FnOk P w K mg base CX0 1 f fd ["_law_words"] (spApart K) := by
  refine F.ok scAp (fun vs H Q E h => ?_) (fun cdv A outer s H vs Q E hr h => ?_)
  · obtain ⟨t, ws, n, rfl, _⟩ := h
    rfl
  · obtain ⟨t, ws, n, rfl, hT, hw, hlen, hn, hn1, k⟩ := h
    have hu := hr.units
    have hu1 := hu_of hr
    refine ⟨_, pss_cons (ps_par (i := 1) (j := 2) (by rfl) scAp.nd rfl rfl (by decide) rfl rfl (pa_cons pe_dnewK (pa_cons pe_dnewK pa_nil)) (by rfl))
      (pss_cons (ps_for PassesOwn.never rfl (pi_tup (pv 0)) (pg_name (i := 3) scAp.nd rfl (Or.inl rfl))
        (pss_one (ps_for PassesOwn.never rfl (pi_range2 (by rfl) T.range (pa_cons pe_int (pa_cons (pe_callB call_len (by rfl) T.len PySem.boot_len (pa_cons (pv 3) pa_nil)) pa_nil))) (pg_name (i := 4) scAp.nd rfl (Or.inl rfl))
          (pss_one (ps_asg (pe_tup (pa_cons pe_int (pa_cons pe_int pa_nil))) (pg_tup (by rfl) (pgs_cons (pg_sub (pv 1) (pe_slice sl_str (pv 3) po_none (po_some (pv 4))) (set_dict hu1)) (pgs_cons (pg_sub (pv 2) (pe_slice sl_str (pv 3) (po_some (pv 4)) po_none) (set_dict hu1)) pgs_nil))))))))
      (pss_cons (ps_for PassesOwn.never rfl (pi_tup (pv 0)) (pg_name (i := 3) scAp.nd rfl (Or.inl rfl))
        (pss_one (ps_for PassesOwn.never rfl (pi_range2 (by rfl) T.range (pa_cons pe_int (pa_cons (pe_callB call_len (by rfl) T.len PySem.boot_len (pa_cons (pv 3) pa_nil)) pa_nil))) (pg_name (i := 4) scAp.nd rfl (Or.inl rfl))
          (pss_one (ps_if (PW.pt (pw_and (pt_cmp (pc_din hu1 (pe_slice sl_str (pv 3) po_none (po_some (pv 4))) (pv 2))) (pw_and1 (pt_cmp (pc_din hu1 (pe_slice sl_str (pv 3) (po_some (pv 4)) po_none) (pv 1)))))) (pss_one (ps_ret pe_bl)) pss_nil)))))
      (pss_one (ps_ret pe_bl)))), ?_⟩
    have hs : ∀ w : Str, w.length = n → w.length ≤ sizeLine := fun w e => Nat.le_trans (by omega : w.length ≤ 100) (by decide)
    refine fun A hA B hB => ⟨_, _, rfl, ?_⟩
    have nAB : A ≠ B := ne_of_none upd_same hB
    have hBH : H B = none := (Same.upd (o := .dK []) hA).free hB
    have eA0 : (upd (upd H A (.dK [])) B (.dK [])) A = some (.dK []) := Same.upd hB _ _ upd_same
    have s0 : Same H (upd (upd H A (.dK [])) B (.dK [])) := (Same.upd hA).trans (Same.upd hB)
    have eB0 : (upd (upd H A (.dK [])) B (.dK [])) B = some (.dK []) := upd_same
    revert s0 eA0 eB0
    generalize upd (upd H A (.dK [])) B (.dK []) = H1
    intro eA0 s0 eB0
    have stay : ∀ {H' : Hp}, Same H H' → SqT K H' t (ws.map V.str) := fun s' => Same.seqT s' hT
    refine ⟨_, rfl, t, rfl, ⟨_, stay s0⟩, ?_⟩
    refine for_tup (K := K) (a := t) (xs := ws.map V.str) (fun i σ H' => ∃ (ka kb : List (Key × V)) (v3 v4 : Option V), σ = [some (.ref t), some (.ref A), some (.ref B), v3, v4] ∧ Same H H' ∧ H' A = some (.dK ka) ∧ H' B = some (.dK kb) ∧ ka.length ≤ 100 * i ∧ kb.length ≤ 100 * i ∧ Keys pre ka (isCut pre (ws.take i)) ∧ Keys suf kb (isCut suf (ws.take i)))
      ⟨[], [], _, _, rfl, s0, eA0, eB0, Nat.zero_le _, Nat.zero_le _, ?_, ?_⟩ (fun i σ H' _ ⟨_, _, _, _, _, s', _⟩ => stay s') ?_ ?_
    · intro z
      constructor
      · intro h; cases h
      · rintro ⟨w, hw, _⟩
        rw [List.take_zero] at hw
        cases hw
    · intro z
      constructor
      · intro h; cases h
      · rintro ⟨w, hw, _⟩
        rw [List.take_zero] at hw
        cases hw
    · rintro i x σ H2 hx ⟨ka, kb, v3, v4, rfl, s2, eA, eB, la, lb, hka, hkb⟩
      rw [List.getElem?_map] at hx
      obtain ⟨w, hwi, rfl⟩ : ∃ w, ws[i]? = some w ∧ x = V.str w := by
        cases e : ws[i]? with
        | none => rw [e] at hx; exact nomatch hx
        | some p => rw [e] at hx; cases hx; exact ⟨p, rfl, rfl⟩
      have lw : w.length = n := hw w (List.mem_of_getElem? hwi)
      refine ⟨_, rfl, _, _, rfl, ⟨hs w lw, rfl⟩, 1, _, rfl, ⟨by decide, by decide, by omega, by omega⟩, ?_⟩
      have en : (((w.length : Nat) : Int) - 1).toNat = n - 1 := by omega
      rw [en]
      refine for_range (lo := 1) (n := n - 1) (fun j σ H' => ∃ (ka kb : List (Key × V)) (v4 : Option V), σ = [some (.ref t), some (.ref A), some (.ref B), some (.str w), v4] ∧ Same H H' ∧ H' A = some (.dK ka) ∧ H' B = some (.dK kb) ∧ ka.length ≤ 100 * i + j ∧ kb.length ≤ 100 * i + j ∧ Keys pre ka (upTo pre (ws.take i) w j) ∧ Keys suf kb (upTo suf (ws.take i) w j))
        ⟨ka, kb, _, rfl, s2, eA, eB, la, lb, hka.imp fun x => ?_, hkb.imp fun x => ?_⟩ ?_ ?_
      · exact ⟨.inl, fun q => q.elim id fun ⟨a, h1, h2, _⟩ => absurd h2 (by omega)⟩
      · exact ⟨.inl, fun q => q.elim id fun ⟨a, h1, h2, _⟩ => absurd h2 (by omega)⟩
      · rintro j σ H3 hj ⟨ka, kb, v4, rfl, s3, eA, eB, la, lb, hka, hkb⟩
        have ej : (1 : Int) + (j : Int) = ((1 + j : Nat) : Int) := by omega
        rw [ej]
        have hi : i < ws.length := (List.getElem?_eq_some_iff.mp hwi).1
        refine ⟨(by show 2 ≤ sizeLine; decide), fun q hq => ?_⟩
        have s4 : Same H3 (upd H3 q (.tup [V.int 1, V.int 1])) := Same.upd hq
        have eq4 : (upd H3 q (.tup [V.int 1, V.int 1])) q = some (.tup [V.int 1, V.int 1]) := upd_same
        revert s4 eq4
        generalize upd H3 q (.tup [V.int 1, V.int 1]) = H4
        intro s4 eq4
        have eA4 := s4 _ _ eA
        have eB4 := s4 _ _ eB
        refine ⟨q, _, rfl, SqT.of eq4, rfl, _, _, rfl, ?_⟩
        refine ⟨_, rfl, _, rfl, _, rfl, _, rfl, w, rfl, hs w lw, A, _, rfl, DPut.k (k := .inr (pre w (1 + j))) (v := V.int 1) eA4 (Nat.lt_of_le_of_lt (by omega : ka.length ≤ 400000) (by decide)), ?_⟩
        have eB5 : (upd H4 A (.dK (putK ka (.inr (pre w (1 + j))) (V.int 1)))) B = some (.dK kb) := by rw [upd_ne (Ne.symm nAB)]; exact eB4
        refine ⟨_, _, rfl, _, rfl, _, rfl, _, rfl, _, rfl, w, rfl, hs w lw, B, _, rfl, DPut.k (k := .inr (suf w (1 + j))) (v := V.int 1) eB5 (Nat.lt_of_le_of_lt (by omega : kb.length ≤ 400000) (by decide)), rfl, ?_⟩
        refine ⟨putK ka (.inr (pre w (1 + j))) (V.int 1), putK kb (.inr (suf w (1 + j))) (V.int 1), _, rfl, same_put (same_put (s3.trans s4) hA) hBH, ?_, upd_same, Nat.le_trans (length_putK _ _ _) (by omega), Nat.le_trans (length_putK _ _ _) (by omega), (hka.put _ _).imp fun x => upTo_succ, (hkb.put _ _).imp fun x => upTo_succ⟩
        rw [upd_ne nAB]; exact upd_same
      · rintro σ H3 ⟨ka, kb, v4, rfl, s3, eA, eB, la, lb, hka, hkb⟩
        exact ⟨ka, kb, _, _, rfl, s3, eA, eB, by omega, by omega, hka.imp fun x => upTo_all hwi (by omega), hkb.imp fun x => upTo_all hwi (by omega)⟩
    rintro σ H2 ⟨ka, kb, v3, v4, rfl, s2, eA, eB, _, _, hka, hkb⟩
    rw [List.length_map, List.take_length] at hka hkb
    have e1 : ∀ z, (valV kb (Sum.inr z)).isSome = true ↔ isEnd ws z := hkb
    have e2 : ∀ z, (valV ka (Sum.inr z)).isSome = true ↔ isBeg ws z := hka
    refine ⟨_, rfl, t, rfl, ⟨_, stay s2⟩, ?_⟩
    refine for_tup (K := K) (a := t) (xs := ws.map V.str) (fun i σ H' => ∃ v3 v4 : Option V, σ = [some (.ref t), some (.ref A), some (.ref B), v3, v4] ∧ Same H2 H' ∧ ∀ w ∈ ws.take i, ∀ a, 1 ≤ a → a < w.length → ¬ hitAt ws w a)
      ⟨_, _, rfl, Same.refl _, fun w hw => (by rw [List.take_zero] at hw; cases hw)⟩ (fun i σ H' _ ⟨_, _, _, s', _⟩ => stay (s2.trans s')) ?_ ?_
    · rintro i x σ H3 hx ⟨v3, v4, rfl, s3, hno⟩
      rw [List.getElem?_map] at hx
      obtain ⟨w, hwi, rfl⟩ : ∃ w, ws[i]? = some w ∧ x = V.str w := by
        cases e : ws[i]? with
        | none => rw [e] at hx; exact nomatch hx
        | some p => rw [e] at hx; cases hx; exact ⟨p, rfl, rfl⟩
      have wm := List.mem_of_getElem? hwi
      have lw : w.length = n := hw w wm
      refine ⟨_, rfl, _, _, rfl, ⟨hs w lw, rfl⟩, 1, _, rfl, ⟨by decide, by decide, by omega, by omega⟩, ?_⟩
      have en : (((w.length : Nat) : Int) - 1).toNat = n - 1 := by omega
      rw [en]
      refine for_range (lo := 1) (n := n - 1) (fun j σ H' => ∃ v4 : Option V, σ = [some (.ref t), some (.ref A), some (.ref B), some (.str w), v4] ∧ Same H2 H' ∧ ∀ a, 1 ≤ a → a < 1 + j → ¬ hitAt ws w a) ⟨_, rfl, s3, fun a h1 h2 => absurd h2 (by omega)⟩ ?_ ?_
      · rintro j σ H4 hj ⟨v4, rfl, s4, hn4⟩
        have ej : (1 : Int) + (j : Int) = ((1 + j : Nat) : Int) := by omega
        rw [ej]
        have next : ¬ hitAt ws w (1 + j) → ∀ a, 1 ≤ a → a < 1 + (j + 1) → ¬ hitAt ws w a := fun hh a h1 h2 => by
          by_cases e : a = 1 + j
          · subst e; exact hh
          · exact hn4 a h1 (by omega)
        refine ⟨_, rfl, _, rfl, _, rfl, w, rfl, hs w lw, _, rfl, B, _, rfl, DGet.k (k := Sum.inr (pre w (1 + j))) (s4 _ _ eB), _, rfl, ?_⟩
        cases hv : (valV kb (Sum.inr (pre w (1 + j)))).isSome with
        | false =>
          refine iteF (iteF ⟨_, rfl, s4, next fun z => ?_⟩)
          have := (e1 (pre w (1 + j))).mpr z.1
          rw [hv] at this
          exact nomatch this
        | true =>
          refine iteT ?_
          refine ⟨_, rfl, _, rfl, _, rfl, w, rfl, hs w lw, _, rfl, A, _, rfl, DGet.k (k := Sum.inr (suf w (1 + j))) (s4 _ _ eA), _, rfl, ?_⟩
          cases hv2 : (valV ka (Sum.inr (suf w (1 + j)))).isSome with
          | false =>
            refine iteF ⟨_, rfl, s4, next fun z => ?_⟩
            have := (e2 (suf w (1 + j))).mpr z.2
            rw [hv2] at this
            exact nomatch this
          | true =>
            refine iteT ?_
            have hf : freeB ws = false := (hit_iff hw).mp ⟨w, wm, 1 + j, by omega, by omega, (e1 _).mp hv, (e2 _).mp hv2⟩
            have kk := k H4 (s2.trans s4)
            rw [hf] at kk
            exact kk
      · rintro σ H4 ⟨v4, rfl, s4, hn4⟩
        refine ⟨_, _, rfl, s4, fun v hv a h1 h2 => ?_⟩
        have et : ws.take (i + 1) = ws.take i ++ [w] := by rw [List.take_succ, hwi]; rfl
        rw [et] at hv
        rcases List.mem_append.mp hv with hv | hv
        · exact hno v hv a h1 h2
        · rw [List.mem_singleton.mp hv] at h2 ⊢
          exact hn4 a h1 (by omega)
    · rintro σ H3 ⟨v3, v4, rfl, s3, hno⟩
      rw [List.length_map, List.take_length] at hno
      have hf : freeB ws = true := by
        cases e : freeB ws with
        | true => rfl
        | false =>
          obtain ⟨v, hv, a, h1, h2, h3⟩ := (hit_iff hw).mpr e
          exact absurd h3 (hno v hv a h1 h2)
      have kk := k H3 (s2.trans s3)
      rw [hf] at kk
      exact kk
end
end K49

set_option Elab.async false
set_option linter.all false
set_option maxRecDepth 100000
set_option maxHeartbeats 4000000
/-! what a book is -/
namespace K49
open PySem PySem.Spec PyProof.Rows L2 Ami
/-- ss is the book for the letters S and the length n -/
structure Book (S : List Nat) (n : Nat) (ss : List Str) : Prop where
  nd : ss.Nodup
  up : Up ss
  len : ∀ y ∈ ss, y.length = n
  mark : ∀ y ∈ ss, Mk.Mark y.cps.toList
  prim : ∀ y ∈ ss, Rng.Prim y.cps.toList
  mem : ∀ y ∈ ss, ∀ c ∈ y.cps.toList, c ∈ S
  ring : ∀ w, Rng.Prim w → (∀ c ∈ w, c ∈ S) → w.length = n → ∃ y ∈ ss, Turn w y.cps.toList
  mins : (ss.map lt1).Perm ((wordsS S n).filter goodB)
theorem lt1_is {z y : Str} (hz : 0 < z.length) (t : Turn z.cps.toList y.cps.toList) (l : leastB z = true) : lt1 y = z := by
  have ly : y.length = z.length := by have := t.len; rw [len_toList, len_toList] at this; exact this
  have yn : y.cps.toList ≠ [] := fun e => by
    have := congrArg List.length e
    rw [len_toList, List.length_nil] at this
    omega
  obtain ⟨t2, l2⟩ := lt1_ok yn
  have l3 : (lt1 y).length = y.length := by have := t2.len; rw [len_toList, len_toList] at this; exact this
  exact (least_uniq hz (by omega) (t.trans t2) l l2).symm
theorem book_of {S : List Nat} {n : Nat} {ws ss : List Str} (hI : Inc S) (hS : 0 < S.length) (hn : 0 < n) (hall : All2 Rel ((wordsS S n).filter goodB) ws) (hp : ss.Perm ws) (hu : Up ss) : Book S n ss := by
  have src : ∀ z ∈ (wordsS S n).filter goodB, z.length = n ∧ (∀ c ∈ z.cps.toList, c ∈ S) ∧ Rng.Prim z.cps.toList ∧ leastB z = true := fun z hz => by
    obtain ⟨z1, z2⟩ := List.mem_filter.mp hz
    obtain ⟨a, b⟩ := words_in hS z1
    obtain ⟨c, d⟩ := (good_iff (by omega)).mp z2
    exact ⟨a, b, c, d⟩
  have em : ∀ (as bs : List Str), All2 Rel as bs → (∀ z ∈ as, z.length = n ∧ (∀ c ∈ z.cps.toList, c ∈ S) ∧ Rng.Prim z.cps.toList ∧ leastB z = true) → bs.map lt1 = as := by
    intro as bs h
    induction h with
    | nil => intro _; rfl
    | cons r t ih =>
      intro hz
      obtain ⟨a, _, _, d⟩ := hz _ List.mem_cons_self
      rw [List.map_cons, ih fun z h => hz z (List.mem_cons_of_mem _ h), lt1_is (by omega) r.1 d]
  have e := em _ _ hall src
  have nds : ((wordsS S n).filter goodB).Nodup := (words_nd hI n).filter _
  have ndw : ws.Nodup := by
    rw [← e] at nds
    exact (List.pairwise_map.mp nds).imp fun h q => h (congrArg _ q)
  refine ⟨hp.nodup_iff.mpr ndw, hu, fun y hy => (book_mark hS hall hp hy).1, fun y hy => (book_mark hS hall hp hy).2, fun y hy => ?_, fun y hy c hc => ?_, fun w a b c => book_ring hall hp a b c, ?_⟩
  · obtain ⟨z, hz, t, _⟩ := All2.mem' hall (hp.mem_iff.mp hy)
    exact t.prim (src z hz).2.2.1
  · obtain ⟨z, hz, t, _⟩ := All2.mem' hall (hp.mem_iff.mp hy)
    exact (src z hz).2.1 c (t.mem.mp hc)
  · have := hp.map lt1
    rw [e] at this
    exact this
theorem Book.count {S : List Nat} {n : Nat} {ss : List Str} (B : Book S n ss) (hI : Inc S) (hS : 0 < S.length) (hn : 0 < n) : (ss.length : Int) = K41m.last S.length n := by
  rw [← good_count hI hS hn, ← B.mins.length_eq, List.length_map]
theorem Book.uniq {S : List Nat} {n : Nat} {ss : List Str} (B : Book S n ss) (ho : n % 2 = 1) {x y : Str} (hx : x ∈ ss) (hy : y ∈ ss) (t : Turn x.cps.toList y.cps.toList) : x = y :=
  list_inj (mark_one (Turn.refl _) t (B.mark x hx) (B.mark y hy) (by rw [len_toList, B.len x hx]; exact ho))
/-- two books are one -/
theorem Book.same {S : List Nat} {n : Nat} {ss tt : List Str} (B : Book S n ss) (C : Book S n tt) (ho : n % 2 = 1) : ss = tt := by
  have sub : ∀ {ss tt : List Str}, Book S n ss → Book S n tt → ∀ x ∈ ss, x ∈ tt := fun B C x hx => by
    obtain ⟨y, hy, t⟩ := C.ring x.cps.toList (B.prim x hx) (B.mem x hx) (by rw [len_toList]; exact B.len x hx)
    have e := mark_one (Turn.refl _) t (B.mark x hx) (C.mark y hy) (by rw [len_toList, B.len x hx]; exact ho)
    rw [list_inj e]; exact hy
  exact up_uniq B.up C.up ((List.perm_ext_iff_of_nodup B.nd C.nd).mpr fun x => ⟨sub B C x, sub C B x⟩)
theorem Book.free {S : List Nat} {n : Nat} {ss : List Str} (B : Book S n ss) (ho : n % 2 = 1) : freeB ss = true := free_marks ho fun w hw => ⟨B.len w hw, B.mark w hw⟩
/-- each letter is somewhere -/
theorem Book.letter {S : List Nat} {n : Nat} {ss : List Str} (B : Book S n ss) (nS : S.Nodup) (h2 : 2 ≤ S.length) (hn : 2 ≤ n) {c : Nat} (hc : c ∈ S) : ∃ y ∈ ss, c ∈ y.cps.toList := by
  obtain ⟨d, hd, hcd⟩ : ∃ d ∈ S, d ≠ c := by
    match S, h2, nS with
    | a :: b :: _, _, nS =>
      by_cases e : a = c
      · refine ⟨b, by simp, fun q => ?_⟩
        rw [List.nodup_cons] at nS
        exact nS.1 (by rw [e, ← q]; simp)
      · exact ⟨a, by simp, e⟩
  have lw : (List.replicate (n - 1) c ++ [d]).length = n := by rw [List.length_append, List.length_replicate, List.length_singleton]; omega
  have ne : List.replicate (n - 1) c ++ [d] ≠ [] := by simp
  have hp : Rng.Prim (List.replicate (n - 1) c ++ [d]) := by
    rw [Rng.prim_iff ne, lw]
    rintro ⟨j, j0, jn, e⟩
    rw [List.drop_append_of_le_length (by rw [List.length_replicate]; omega), List.take_append_of_le_length (by rw [List.length_replicate]; omega)] at e
    obtain ⟨i, rfl⟩ : ∃ i, j = i + 1 := ⟨j - 1, by omega⟩
    rw [List.take_replicate, Nat.min_eq_left (by omega), List.replicate_succ', ← List.append_assoc] at e
    have e2 := (List.append_inj' e rfl).2
    injection e2 with e3 _
    exact hcd e3.symm
  obtain ⟨y, hy, t⟩ := B.ring _ hp (fun x hx => by
    rcases List.mem_append.mp hx with h | h
    · rw [(List.mem_replicate.mp h).2]; exact hc
    · rw [List.mem_singleton.mp h]; exact hd) lw
  refine ⟨y, hy, t.mem.mpr ?_⟩
  obtain ⟨i, hi⟩ : ∃ i, n - 1 = i + 1 := ⟨n - 2, by omega⟩
  rw [hi, List.replicate_succ]
  exact List.mem_append_left _ List.mem_cons_self
/-- the least turn, told by min -/
theorem min_is {y m : Str} (hy : 0 < y.length) (hm : m ∈ turnsL y) (h : ∀ x ∈ turnsL y, ¬ x.cps.toList < m.cps.toList) : m = lt1 y := by
  have tm := (turnsL_turn hy).mp hm
  have lm : m.length = y.length := by have := tm.len; rw [len_toList, len_toList] at this; exact this
  refine (lt1_is (by omega) tm.symm ((least_iff (by omega)).mpr fun v hv => ?_)).symm
  have := h ⟨v.toArray⟩ ((turnsL_turn hy).mpr (by rw [List.toList_toArray]; exact tm.trans hv))
  rw [List.toList_toArray] at this
  exact this
theorem lasts_ok : K41m.last 2 13 = 630 ∧ K41m.last 3 9 = 2184 ∧ K41m.last 4 7 = 2340 ∧ K41m.last 5 5 = 624 := by decide +kernel
end K49

set_option Elab.async false
set_option linter.all false
set_option maxRecDepth 100000
set_option maxHeartbeats 8000000
/-! the greatest books -/
namespace K49
open PySem PySem.Spec PyProof.Rows L2 Ami
/-- two arguments by their names, the second one first -/
def gWL {α : Type} : List α → List α → List α
  | [], [u, t] => [t, u]
  | _, _ => []
theorem gWL_rel {vs : List V} {us : List Value} {zs : List V} {ws : List Value} (r : Vals vs us) (rz : Vals zs ws) : Vals (gWL vs zs) (gWL us ws) := by
  cases r with
  | cons _ _ => exact .nil
  | nil =>
    cases rz with
    | nil => exact .nil
    | cons a b =>
      cases b with
      | nil => exact .nil
      | cons c d =>
        cases d with
        | nil => exact .cons c (.cons a .nil)
        | cons _ _ => exact .nil
theorem iteN {b : Bool} {p q : Prop} (h : b = true) (k : q) : if (!b) = true then p else q := by
  rw [h]
  exact iteF k
theorem join_flat : ∀ ys : List Str, (Txt.join ⟨#[]⟩ ys).cps.toList = (ys.map fun y => y.cps.toList).flatten
  | [] => rfl
  | [x] => by
    show (Builtin.Str.glued ⟨#[]⟩ [x]).cps.toList = _
    rw [StrLaws.glued_eq_join]
    show x.cps.toList = _
    simp
  | x :: y :: r => by
    have ih : (Builtin.Str.glued ⟨#[]⟩ (y :: r)).cps.toList = _ := join_flat (y :: r)
    show (Builtin.Str.glued ⟨#[]⟩ (x :: y :: r)).cps.toList = _
    rw [StrLaws.glued_eq_join] at ih ⊢
    show (x.cps ++ (#[] : Array Nat) ++ (Str.join ⟨#[]⟩ (y :: r)).cps).toList = _
    rw [Array.toList_append, Array.toList_append, ih]
    simp
theorem setTxW {X : Cx} {K0 : PySem.W.Frag} {w0 : World} (hK : X.K = K0) (hw : X.w = w0) (hc : X.calm = true) : CallR X (.type "set") (rSetTx K0 w0) := by
  subst hK hw
  exact cr_setTx hc
theorem lenWW {X : Cx} {w0 : World} (hw : X.w = w0) : CallR X (.builtin "len") (fun vs H Q => ∃ (a : Addr) (ss : List Str), vs = [V.ref a] ∧ H a = some (SW w0 a (ss.map Sum.inr)) ∧ Q (.int (ss.length : Nat)) H) := by
  subst hw
  exact cr_lenW
theorem sortedWW {X : Cx} {w0 : World} (hw : X.w = w0) (hc : X.calm = true) : CallR X (.builtin "sorted") (fun vs H Q => ∃ (a : Addr) (ss : List Str), vs = [.ref a] ∧ H a = some (SW w0 a (ss.map Sum.inr)) ∧
    ∀ ys p, ys.Perm ss → Up ys → H p = none → Q (.ref p) (upd H p (.lst (ys.map V.str)))) := by
  subst hw
  exact cr_sortedWT hc
/-- letters and lengths of the greatest books -/
def Grt (S : List Nat) (n : Nat) : Prop := (S.length = 2 ∧ n = 13) ∨ (S.length = 3 ∧ n = 9) ∨ (S.length = 4 ∧ n = 7) ∨ (S.length = 5 ∧ n = 5)
def spGreat : Sp := fun vs H Q _ => ∃ (S : List Nat) (n : Nat), vs = [tV S, .int n] ∧ Inc S ∧ Grt S n ∧ (∀ c ∈ S, c < 128) ∧ ∀ H', Same H H' → Q (.bl true) H'
section
variable {P : Program} {w : World} {K : PySem.W.Frag} {mg : Str → Option Value} {base : Heap}
theorem kk_book {f : Addr} {fd : FuncData} (F : Fun K "comma_free_book" "comma_free_book" sBook f fd) : KBinds K fd ["letters", "length"] ["length", "letters"] gWL gWL := by
  obtain ⟨oc, od, kV, doc, pm, an, cdv, ct, osl, rfl, lk, hcd⟩ := F.ex
  exact ⟨fun s us ws _ hl => match us, ws, hl with | [], [_, _], _ => .of_eq rfl, gWL_rel⟩
abbrev nGr : List Str := ["_law_signs", "_law_size", "_law_words", "_law_rings", "_law_many", "_law_item"]
theorem scGr : FnScope nGr ["_law_signs", "_law_size"] (defScope sGreat) := ⟨rfl, rfl, rfl, by decide +kernel, rfl, by decide +kernel, by decide +kernel⟩
theorem ok_great {f fb fT fB fR fA : Addr} {fd db dT dB dR dA : FuncData} (F : Fun K "_law_great_right" "_law_great_right" sGreat f fd) (T : Blt mg)
    (Db : DefAt K mg "comma_free_book" sBook ["letters", "length"] fb db) (Gb : FnOk P w K mg base CX0 4 fb db ["letters", "length"] spBook)
    (DT : DefAt K mg "_law_turns" sTurns1 ["_law_item"] fT dT) (GT : FnOk P w K mg base CX0 1 fT dT ["_law_item"] spT1)
    (DB : DefAt K mg "_law_bare" sBare ["_law_item"] fB dB) (GB : FnOk P w K mg base CX0 2 fB dB ["_law_item"] spBare)
    (DR : DefAt K mg "letter_rings" sRings ["many", "length"] fR dR) (GR : FnOk P w K mg base CX0 3 fR dR ["many", "length"] Rg.spRings)
    (DA : DefAt K mg "_law_apart" sApart ["_law_words"] fA dA) (GA : FnOk P w K mg base CX0 1 fA dA ["_law_words"] (spApart K)) :
    FnOk P w K mg base CX0 5 f fd ["_law_signs", "_law_size"] spGreat := by
  have kb := kk_book Db.F
  refine F.ok scGr (fun vs H Q E h => ?_) (fun cdv A outer s H vs Q E hr h => ?_)
  · obtain ⟨S, n, rfl, _⟩ := h
    rfl
  · obtain ⟨S, n, rfl, hI, hG, hA, k⟩ := h
    have hr1 := hr.mono (j := 1) (by decide)
    have hr2 := hr.mono (j := 2) (by decide)
    have hr3 := hr.mono (j := 3) (by decide)
    have hun := hr.units
    have hu1 := hu_of hr
    refine ⟨_, pss_cons (ps_set (i := 2) scGr.nd rfl (Or.inl rfl) (pe_callK0 Gb hr (by rfl) Db.g Db.F.kp kb pass0 (pk_cons (pv 1) (pk_cons (pv 0) pk_nil))))
      (pss_cons (ps_setLc (i := 3) (own := [("_law_item", 5)]) (g := gName 5) (tt := tYes) rfl scGr.nd rfl rfl (by rfl) (pi_tup (pv 2)) (blkOk_by (own := [("_law_item", 5)]) (N := nGr) (sc := defScope sGreat) (by decide +kernel)) (fun _ _ _ _ _ => pg_name (i := 5) scGr.nd rfl (Or.inl rfl)) (fun _ _ _ _ _ => pts_nil)
        (fun _ _ _ _ _ => pe_callB (cr_minT (K0 := K) rfl rfl hun) (by rfl) T.min (by rfl) (pa_cons (pc DT GT hr1 (pa_cons (pv 5) pa_nil)) pa_nil)))
      (pss_cons (ps_if (PW.pt (pw_or (pt_cmpR (op_neD hun) (pv 2) (pe_callTy call_tuple_of (by rfl) T.tuple (by decide +kernel) (pa_cons (pe_callB (sortedWW (w0 := w) rfl rfl) (by rfl) T.sorted (by decide +kernel) (pa_cons (pe_callTy (setTxW (K0 := K) (w0 := w) rfl rfl rfl) (by rfl) T.set (by decide +kernel) (pa_cons (pv 2) pa_nil)) pa_nil)) pa_nil)) (nomark _))
          (pw_or (pt_cmpR op_ne (pe_callB (lenWW (w0 := w) rfl) (by rfl) T.len PySem.boot_len (pa_cons (pe_callTy (setTxW (K0 := K) (w0 := w) rfl rfl rfl) (by rfl) T.set (by decide +kernel) (pa_cons (pv 3) pa_nil)) pa_nil)) (pe_callB call_len (by rfl) T.len PySem.boot_len (pa_cons (pv 2) pa_nil)) (nomark _))
            (pw_or1 (pt_cmpR op_ne (pe_callB call_len (by rfl) T.len PySem.boot_len (pa_cons (pe_ix ix_seq (pv 2) pe_int (fun _ _ => rfl)) pa_nil)) (pv 1) (nomark _)))))) (pss_one (ps_ret pe_bl)) pss_nil)
      (pss_cons (ps_if (PW.pt (pw_or (pt_cmpR (op_neD hun) (pe_callB (sortedWW (w0 := w) rfl rfl) (by rfl) T.sorted (by decide +kernel) (pa_cons (pe_callTy (cr_setStrF (w0 := w) rfl rfl) (by rfl) T.set (by decide +kernel) (pa_cons (pe_join pe_str (pv 2)) pa_nil)) pa_nil)) (pe_callTy (call_list_txt rfl) (by rfl) T.list (by decide +kernel) (pa_cons (pv 0) pa_nil)) (nomark _))
          (pw_or1 (pt_cmpR (op_neD hun) (pe_lc (own := [("_law_item", 5)]) (g := gName 5) rfl scGr.nd (pi_tup (pv 2)) (blkOk_by (own := [("_law_item", 5)]) (N := nGr) (sc := defScope sGreat) (by decide +kernel)) (fun _ _ _ _ _ => pg_name (i := 5) scGr.nd rfl (Or.inl rfl))
            (fun _ _ _ _ _ => pts_one (pt_not (pt_val (pc DB GB hr2 (pa_cons (pv 5) pa_nil))))) (fun _ _ _ _ _ => pv 5)) (pe_lst pa_nil) (nomark _))))) (pss_one (ps_ret pe_bl)) pss_nil)
      (pss_cons (ps_set (i := 4) scGr.nd rfl (Or.inl rfl) (pe_dget hu1 (pe_disp (pps_cons pe_int pe_int (pps_cons pe_int pe_int (pps_cons pe_int pe_int (pps_cons pe_int pe_int pps_nil)))) (by rfl) (by rfl) (fun z => by cases z) (by decide)) (pv 1) (fun _ _ => rfl)))
      (pss_one (ps_ret (pe_and (pe_cmpR op_eq (pe_callB call_len (by rfl) T.len PySem.boot_len (pa_cons (pv 2) pa_nil)) (pv 4) (nomark _)) (pe_and (pe_cmpR op_eq (pc DR GR hr3 (pa_cons (pe_callB call_len (by rfl) T.len PySem.boot_len (pa_cons (pv 0) pa_nil)) (pa_cons (pv 1) pa_nil))) (pv 4) (nomark _)) (pe_one (pc DA GA hr1 (pa_cons (pv 2) pa_nil))))))))))), ?_⟩
    obtain ⟨S2, S5, no, n5, n13, npow⟩ : 2 ≤ S.length ∧ S.length ≤ 5 ∧ n % 2 = 1 ∧ 5 ≤ n ∧ n ≤ 13 ∧ S.length ^ n ≤ 20000 := by
      rcases hG with ⟨a, b⟩ | ⟨a, b⟩ | ⟨a, b⟩ | ⟨a, b⟩ <;> rw [a, b] <;> decide
    refine ⟨_, rfl, _, rfl, S, n, rfl, hI.nd, S2, S5, no, by omega, npow, fun ws ss t H1 s1 ht et hall hperm hup => ?_⟩
    have B := book_of hI (by omega) (by omega) hall hperm hup
    have cnt := B.count hI (by omega) (by omega)
    have lss : ss.length ≤ 2340 := by
      rcases hG with ⟨a, b⟩ | ⟨a, b⟩ | ⟨a, b⟩ | ⟨a, b⟩ <;> rw [a, b] at cnt
      · rw [lasts_ok.1] at cnt; omega
      · rw [lasts_ok.2.1] at cnt; omega
      · rw [lasts_ok.2.2.1] at cnt; omega
      · rw [lasts_ok.2.2.2] at cnt; omega
    have asc : ∀ y ∈ ss, Asc y := fun y hy c hc => hA c (B.mem y hy c hc)
    have okS := okF_texts asc
    have ly : ∀ y ∈ ss, y.length = n := B.len
    refine ⟨_, rfl, t, rfl, ⟨_, SqT.of et⟩, fun C hC => ?_⟩
    have etC := Same.upd (o := .lst []) hC _ _ et
    refine lc_tup (K := K) (a := t) (xs := ss.map V.str) (fun i H' => H' C = some (.lst (((ss.take i).map lt1).map V.str)) ∧ Same H1 H') ⟨upd_same, Same.upd hC⟩ (fun i H' _ ⟨_, sm⟩ => SqT.of (sm _ _ et)) ?_ ?_
    · rintro i x H2 hx ⟨eC, sm⟩
      rw [List.getElem?_map] at hx
      obtain ⟨y, hy, rfl⟩ : ∃ y, ss[i]? = some y ∧ x = V.str y := by
        cases e : ss[i]? with
        | none => rw [e] at hx; exact nomatch hx
        | some p => rw [e] at hx; cases hx; exact ⟨p, rfl, rfl⟩
      have ym := List.mem_of_getElem? hy
      have yl := ly y ym
      have et2 : ss.take (i + 1) = ss.take i ++ [y] := by rw [List.take_add_one, hy]; rfl
      refine ⟨rfl, ?_⟩
      dsimp only [tYes]
      refine iteT ?_
      refine ⟨_, rfl, y, rfl, by omega, fun L H3 s3 _ eL => ⟨L, turnsL y, rfl, SqL.of eL, fun z => ?_, fun m hm hmin => ?_⟩⟩
      · have := congrArg List.length z
        rw [turnsL_len, List.length_nil] at this
        omega
      · rw [min_is (by omega) hm hmin]
        refine ⟨_, s3 _ _ eC, ?_, ?_, same_put (sm.trans s3) hC⟩
        · rw [List.length_map, List.length_map, List.length_take]
          exact Nat.lt_of_le_of_lt (Nat.le_trans (Nat.min_le_right _ _) lss) (by decide)
        · rw [upd_same, et2, List.map_append, List.map_append]; rfl
    rintro H2 ⟨eC, sm2⟩
    rw [List.length_map, List.take_length] at eC
    have et2 := sm2 _ _ et
    have pnd : (ss.map lt1).Nodup := B.mins.nodup_iff.mpr ((words_nd hI n).filter _)
    refine ⟨_, rfl, _, rfl, t, ss, rfl, .inr (SqT.of et2), Nat.lt_of_le_of_lt lss (by decide), fun p l hp hnd hmem => ?_⟩
    refine ⟨p, l, rfl, upd_same, fun ys q hys hyu hq => ?_⟩
    obtain rfl : ys = ss := up_uniq hyu B.up (hys.trans ((List.perm_ext_iff_of_nodup hnd B.nd).mpr hmem))
    refine ⟨q, _, rfl, .inl ⟨SqL.of upd_same, fun u hu => ?_⟩⟩
    have et5 := Same.upd (o := .tup (ys.map V.str)) hu _ _ (Same.upd (o := .lst (ys.map V.str)) hq _ _ (Same.upd (o := SW w p (l.map Sum.inr)) hp _ _ et2))
    have eC5 := Same.upd (o := .tup (ys.map V.str)) hu _ _ (Same.upd (o := .lst (ys.map V.str)) hq _ _ (Same.upd (o := SW w p (l.map Sum.inr)) hp _ _ eC))
    have s5 : Same H (upd (upd (upd H2 p (SW w p (l.map Sum.inr))) q (.lst (ys.map V.str))) u (.tup (ys.map V.str))) := (((s1.trans sm2).trans (Same.upd hp)).trans (Same.upd hq)).trans (Same.upd hu)
    refine ⟨_, _, .tup (SqT.of et5) (dpAll_flat okS), .tup (SqT.of upd_same) (dpAll_flat okS), shaped_tup okS, shaped_tup okS, _, rfl, ?_⟩
    refine iteN (PySem.SeqAt.eqv_refl _ (canLayAll_flat okS)) ?_
    revert et5 eC5 s5
    generalize upd (upd (upd H2 p (SW w p (l.map Sum.inr))) q (.lst (ys.map V.str))) u (.tup (ys.map V.str)) = H5
    intro et5 eC5 s5
    have ne : ∀ x : V, (!decide (x = x)) = false := fun x => by rw [decide_eq_true rfl]; rfl
    have lys : (ys.map V.str).length = ys.length := List.length_map ..
    refine ⟨_, rfl, C, ys.map lt1, rfl, .inl (SqL.of eC5), by rw [List.length_map]; exact Nat.lt_of_le_of_lt lss (by decide), fun p2 l2 hp2 hnd2 hm2 => ⟨p2, l2, rfl, upd_same, ?_⟩⟩
    have el2 : l2.length = ys.length := by
      rw [((List.perm_ext_iff_of_nodup hnd2 pnd).mpr hm2).length_eq, List.length_map]
    have s6 : Same H5 (upd H5 p2 (SW w p2 (l2.map Sum.inr))) := Same.upd hp2
    have et6 := s6 _ _ et5
    refine ⟨_, rfl, _, ys.length, rfl, .inr ⟨_, SqT.of et6, lys.symm⟩, rfl, _, rfl, ?_⟩
    rw [el2, ne]
    refine iteF ?_
    obtain ⟨c0, hc0⟩ : ∃ c, c ∈ S := ⟨S[0], List.getElem_mem (by omega)⟩
    obtain ⟨y0, r0, ey0⟩ : ∃ y0 r0, ys = y0 :: r0 := by
      obtain ⟨y, hy, _⟩ := B.letter hI.nd S2 (by omega) hc0
      cases ys with
      | nil => exact nomatch hy
      | cons a b => exact ⟨a, b, rfl⟩
    have at0 : atI (ys.map V.str) ((0 : Nat) : Int) = some (V.str y0) := by rw [ey0]; exact atI_nat (j := 0) rfl
    have y0l : y0.length = n := ly y0 (by rw [ey0]; exact List.mem_cons_self)
    refine ⟨_, rfl, .inr (.inl ⟨t, _, ((0 : Nat) : Int), _, rfl, rfl, SqT.of et6, at0, _, y0.length, rfl, ⟨Nat.le_trans (by omega : y0.length ≤ 13) (by decide), rfl⟩, _, rfl, rfl, _, rfl, ?_⟩)⟩
    rw [y0l, ne]
    refine iteF ?_
    revert s6 et6
    generalize upd H5 p2 (SW w p2 (l2.map Sum.inr)) = H6
    intro s6 et6
    have e0 : Str.ofString "" = ⟨#[]⟩ := by decide +kernel
    have eJ : (Txt.join ⟨#[]⟩ ys).cps.toList = (ys.map fun y => y.cps.toList).flatten := join_flat ys
    refine ⟨⟨_, rfl⟩, _, rfl, _, t, ys, rfl, rfl, .inr (SqT.of et6), ?_, ?_⟩
    · have e : ys.map (fun x : Str => x.length) = List.replicate ys.length n := List.eq_replicate_iff.mpr ⟨by rw [List.length_map], fun b hb => by obtain ⟨c, hc, rfl⟩ := List.mem_map.mp hb; exact ly c hc⟩
      rw [e, List.sum_replicate_nat]
      have e1 : (Str.ofString "").length = 0 := by decide +kernel
      rw [e1]
      have : ys.length * n ≤ 2340 * 13 := Nat.mul_le_mul lss n13
      exact Nat.le_trans (by omega : _ ≤ 40000) (by decide)
    rw [e0]
    have lJ : ∀ x, x ∈ letts (Txt.join ⟨#[]⟩ ys) ↔ x ∈ S.map one := fun x => by
      unfold letts
      rw [eJ, List.mem_map, List.mem_map]
      constructor
      · rintro ⟨c, hc, rfl⟩
        obtain ⟨l0, hl0, hc0⟩ := List.mem_flatten.mp hc
        obtain ⟨y, hy, rfl⟩ := List.mem_map.mp hl0
        exact ⟨c, B.mem y hy c hc0, rfl⟩
      · rintro ⟨c, hc, rfl⟩
        obtain ⟨y, hy, hcy⟩ := B.letter hI.nd S2 (by omega) hc
        exact ⟨c, List.mem_flatten.mpr ⟨_, List.mem_map.mpr ⟨y, hy, rfl⟩, hcy⟩, rfl⟩
    refine ⟨_, S.map one, rfl, fun x hx => (lJ x).mp hx, by rw [List.length_map]; exact Nat.lt_of_le_of_lt (by omega : S.length + 1 ≤ 6) (by decide), fun p3 l3 hp3 hnd3 hm3 => ⟨p3, l3, rfl, upd_same, fun zs q3 hz3 hzu hq3 => ?_⟩⟩
    have ez : zs = S.map one := by
      refine up_uniq hzu ?_ (hz3.trans ((List.perm_ext_iff_of_nodup hnd3 ?_).mpr fun x => (hm3 x).trans (lJ x)))
      · unfold Up
        rw [List.pairwise_map]
        exact hI.imp fun {a b} hab => List.lt_asymm (List.cons_lt_cons_iff.mpr (.inl hab))
      · exact List.pairwise_map.mpr (hI.imp fun {a b} hab e => absurd (Ami.one_inj e) (Nat.ne_of_lt hab))
    subst ez
    have okL : ((S.map one).map V.str).all okF = true := okF_texts fun x hx c hc => by
      obtain ⟨d, hd, rfl⟩ := List.mem_map.mp hx
      have : c = d := by simpa [one] using hc
      rw [this]; exact hA d hd
    have eS : ((⟨S.toArray⟩ : Str).cps.toList.map fun c => V.str ⟨#[c]⟩) = (S.map one).map V.str := by
      rw [List.toList_toArray, List.map_map]; rfl
    refine ⟨_, rfl, ⟨S.toArray⟩, rfl, ?_, fun l4 hl4 => ?_⟩
    · show S.toArray.size ≤ sizeLine
      rw [List.size_toArray]; exact Nat.le_trans S5 (by decide)
    rw [eS]
    have s7 : Same H6 (upd (upd (upd H6 p3 (SW w p3 (l3.map Sum.inr))) q3 (.lst ((S.map one).map V.str))) l4 (.lst ((S.map one).map V.str))) := ((Same.upd hp3).trans (Same.upd hq3)).trans (Same.upd hl4)
    have eq7 := Same.upd (o := .lst ((S.map one).map V.str)) hl4 q3 _ upd_same
    have e77 : (upd (upd (upd H6 p3 (SW w p3 (l3.map Sum.inr))) q3 (.lst ((S.map one).map V.str))) l4 (.lst ((S.map one).map V.str))) l4 = some (.lst ((S.map one).map V.str)) := upd_same
    refine ⟨_, _, .lst (SqL.of eq7) (dpAll_flat okL), .lst (SqL.of e77) (dpAll_flat okL), shaped_list okL, shaped_list okL, _, rfl, ?_⟩
    refine iteN (PySem.SeqAt.eqv_refl _ (canLayAll_flat okL)) ?_
    have et7 := s7 _ _ et6
    revert s7 et7
    generalize upd (upd (upd H6 p3 (SW w p3 (l3.map Sum.inr))) q3 (.lst ((S.map one).map V.str))) l4 (.lst ((S.map one).map V.str)) = H7
    intro s7 et7
    refine ⟨_, rfl, t, rfl, ⟨_, SqT.of et7⟩, fun C4 hC4 => ?_⟩
    refine lc_tup (K := K) (a := t) (xs := ys.map V.str) (fun i H' => Same (upd H7 C4 (.lst [])) H') (Same.refl _) (fun i H' _ sm => SqT.of (sm _ _ (Same.upd hC4 _ _ et7))) ?_ ?_
    · intro i x H' hx sm
      obtain ⟨y, hy, rfl⟩ := List.mem_map.mp (List.mem_of_getElem? hx)
      have yl := ly y hy
      refine ⟨rfl, ?_⟩
      refine ⟨_, rfl, y, rfl, by omega, by omega, fun H8 s8 => ⟨_, rfl, ?_⟩⟩
      rw [decide_eq_true ((count_one (by omega)).mpr (B.prim y hy))]
      exact iteF (sm.trans s8)
    intro H8 sm8
    refine ⟨Nat.zero_le _, fun q8 hq8 => ?_⟩
    have eC4 := sm8 C4 _ upd_same
    refine ne_nil (SqL.of (Same.upd hq8 _ _ eC4)) (SqL.of upd_same) rfl ⟨_, rfl, ?_⟩
    refine iteF ?_
    have s9 : Same H7 (upd H8 q8 (.lst [])) := ((Same.upd hC4).trans sm8).trans (Same.upd hq8)
    have et9 := s9 _ _ et7
    revert s9 et9
    generalize upd H8 q8 (.lst []) = H9
    intro s9 et9
    have look : valV (mergeK [] [(Sum.inl 13, V.int 630), (Sum.inl 9, V.int 2184), (Sum.inl 7, V.int 2340), (Sum.inl 5, V.int 624)]) (Sum.inl (n : Int)) = some (V.int (ys.length : Nat)) := by
      rw [cnt]
      rcases hG with ⟨a, b⟩ | ⟨a, b⟩ | ⟨a, b⟩ | ⟨a, b⟩ <;> rw [a, b]
      · rw [lasts_ok.1]; rfl
      · rw [lasts_ok.2.1]; rfl
      · rw [lasts_ok.2.2.1]; rfl
      · rw [lasts_ok.2.2.2]; rfl
    refine fun pd hpd => ⟨upd_same, [(Sum.inl 13, V.int 630), (Sum.inl 9, V.int 2184), (Sum.inl 7, V.int 2340), (Sum.inl 5, V.int 624)], rfl, (by show 4 ≤ 15; decide), _, rfl, pd, V.int (ys.length : Nat), rfl, ?_, ?_⟩
    · have q := DGet.k (H := upd (upd H9 pd (.dK [])) pd (.dK (mergeK [] [(Sum.inl 13, V.int 630), (Sum.inl 9, V.int 2184), (Sum.inl 7, V.int 2340), (Sum.inl 5, V.int 624)]))) (k := Sum.inl (n : Int)) upd_same
      rw [look] at q
      exact q
    have s10 : Same H9 (upd (upd H9 pd (.dK [])) pd (.dK (mergeK [] [(Sum.inl 13, V.int 630), (Sum.inl 9, V.int 2184), (Sum.inl 7, V.int 2340), (Sum.inl 5, V.int 624)]))) := fun a o h => by
      have na : a ≠ pd := fun e => by rw [e, hpd] at h; exact nomatch h
      rw [upd_ne na, upd_ne na]
      exact h
    have et10 := s10 _ _ et9
    revert s10 et10
    generalize upd (upd H9 pd (.dK [])) pd (.dK (mergeK [] [(Sum.inl 13, V.int 630), (Sum.inl 9, V.int 2184), (Sum.inl 7, V.int 2340), (Sum.inl 5, V.int 624)])) = H10
    intro s10 et10
    have eqt : ∀ z : V, decide (z = z) = true := fun z => decide_eq_true rfl
    refine ⟨_, rfl, _, ys.length, rfl, .inr ⟨_, SqT.of et10, lys.symm⟩, _, rfl, rfl, true, ?_, ?_⟩
    · rw [eqt]
    refine iteT ?_
    refine ⟨_, rfl, _, S.length, rfl, ⟨?_, rfl⟩, _, rfl, S.length, n, rfl, by omega, by omega, by omega, fun H11 s11 => ⟨_, rfl, rfl, true, ?_, ?_⟩⟩
    · show S.toArray.size ≤ sizeLine
      rw [List.size_toArray]; exact Nat.le_trans S5 (by decide)
    · show V.bl (decide (V.int (K41m.last S.length n) = V.int (ys.length : Nat))) = _
      rw [cnt, eqt]
    refine iteT ?_
    refine ⟨_, rfl, t, ys, n, rfl, SqT.of (s11 _ _ et10), ly, by omega, by omega, by omega, fun H12 s12 => ?_⟩
    rw [B.free no]
    exact k _ ((((((s5.trans s6).trans s7).trans s9).trans s10).trans s11).trans s12)
end
end K49

set_option Elab.async false
set_option linter.all false
set_option maxRecDepth 100000
set_option maxHeartbeats 8000000
/-! the law -/
namespace Ami
/-- the law -/
def spLaw2 (K : PySem.W.Frag) : L2.Sp := fun vs H Q _ => ∃ (a : PySem.Addr) (ns : List Int), vs = [.ref a] ∧ L2.SqL K H a (ns.map L2.V.int) ∧ ns.length ≤ 63 ∧ ∀ H', Q (.bl true) H'
end Ami
namespace K49
open PySem PySem.Spec PyProof.Rows L2 Ami
theorem iteB {b : Bool} {p q : Prop} (h : b = false) (k : q) : if b = true then p else q := by
  rw [h]
  exact iteF k
theorem op_isnotB {X : Cx} : OpR X (compareOp .IsNot) (fun x y H Q => ∃ a b, x = .bl a ∧ y = .bl b ∧ Q (.bl (!decide (a = b))) H) := op_isnot_bl
theorem tup_repr {K : PySem.W.Frag} {H : Hp} {p : Addr} {ys : List Str} {n : Nat} (A : ∀ y ∈ ys, Asc y) (l : ∀ y ∈ ys, y.length = n) (hn : n ≤ 20) (hy : ys.length ≤ 3000) (hp : SqT K H p (ys.map V.str)) :
    Dq K H (.ref p) (.tuple ((ys.map V.str).map fD)) ∧ dictFlat (.tuple ((ys.map V.str).map fD)) = true ∧ (PyData.tuple ((ys.map V.str).map fD)).showable = true ∧ (PyData.tuple ((ys.map V.str).map fD)).shown.length ≤ sizeLine ∧ (PyData.tuple ((ys.map V.str).map fD)).depth ≤ 50 := by
  refine ⟨.tup hp (dqAll_flat (okF_texts A)), ?_, showable_texts _, ?_, ?_⟩
  · show (!(PyData.hasDictAll ((ys.map V.str).map fD))) = true
    rw [noDict_texts]; rfl
  · have e : ys.map (fun x : Str => x.length) = List.replicate ys.length n := List.eq_replicate_iff.mpr ⟨by rw [List.length_map], fun b hb => by obtain ⟨c, hc, rfl⟩ := List.mem_map.mp hb; exact l c hc⟩
    have m : ys.length * n ≤ 3000 * 20 := Nat.mul_le_mul hy hn
    exact shownT_texts A (by rw [e, List.sum_replicate_nat]; omega)
  · show PyData.depthAll ((ys.map V.str).map fD) + 1 ≤ 50
    rw [depthAll_flat]; decide
/-- one word more is too many -/
theorem one_more {ss ys : List Str} {x m : Str} (hx : x ∈ ss) (hp : ys.Perm (ss ++ [m])) (hm : m ∈ turnsL x) (hne : m ≠ x) : freeB ys = false := by
  cases h : freeB ys with
  | false => rfl
  | true =>
    exfalso
    obtain ⟨k, hk, rfl⟩ := turnsL_mem.mp hm
    have k0 : 1 ≤ k := by
      rcases Nat.eq_zero_or_pos k with e | e
      · subst e
        exact absurd (Wd.rot_zero x) hne
      · exact e
    have xm : x ∈ ys := hp.mem_iff.mpr (List.mem_append_left _ hx)
    refine (free_iff.mp h) x xm x xm k k0 hk ?_
    refine hp.mem_iff.mpr (List.mem_append_right _ (List.mem_singleton.mpr ?_))
    rw [amid_eq x x k (Nat.le_of_lt hk) rfl]
    refine list_inj ?_
    rw [List.toList_toArray, Wd.rot_list x k (Nat.le_of_lt hk)]
def sg : List Str := [Str.ofString "ab", Str.ofString "ab", Str.ofString "mz", Str.ofString "abc", Str.ofString "wxyz", Str.ofString "abcde"]
theorem signs_are {y : V} (hy : y ∈ sg.map V.str) : ∃ S : List Nat, y = tV S ∧ Inc S ∧ 2 ≤ S.length ∧ S.length ≤ 5 ∧ ∀ x ∈ S, x < 128 := by
  have all6 : (sg.all fun z => decide (z.cps.toList.Pairwise (· < ·)) && decide (2 ≤ z.cps.toList.length) && decide (z.cps.toList.length ≤ 5) && z.cps.toList.all fun c => decide (c < 128)) = true := by decide +kernel
  obtain ⟨z, hz, rfl⟩ := List.mem_map.mp hy
  have q := List.all_eq_true.mp all6 z hz
  simp only [Bool.and_eq_true, decide_eq_true_eq, List.all_eq_true] at q
  exact ⟨z.cps.toList, by rw [tV, Array.toArray_toList], q.1.1.1, q.1.1.2, q.1.2, q.2⟩
theorem sizes_are {S : List Nat} (h2 : 2 ≤ S.length) (h5 : S.length ≤ 5) : ∃ mo gr : Nat, ([V.int 6, V.int 4, V.int 3, V.int 2] : List V)[S.length - 2]? = some (V.int mo) ∧ ([V.int 13, V.int 9, V.int 7, V.int 5] : List V)[S.length - 2]? = some (V.int gr) ∧ 2 ≤ mo ∧ mo ≤ 6 ∧ Grt S gr ∧
    ∀ z, z < 2 * mo → S.length ^ z ≤ 2500 := by
  have pw : ∀ a m z : Nat, 1 ≤ a → a ^ (2 * m - 1) ≤ 2500 → z < 2 * m → a ^ z ≤ 2500 := fun a m z ha h hz => Nat.le_trans (Nat.pow_le_pow_right ha (by omega)) h
  have c : S.length = 2 ∨ S.length = 3 ∨ S.length = 4 ∨ S.length = 5 := by omega
  rcases c with e | e | e | e
  · rw [e]; exact ⟨6, 13, rfl, rfl, by decide, by decide, .inl ⟨e, rfl⟩, fun z => pw 2 6 z (by decide) (by decide)⟩
  · rw [e]; exact ⟨4, 9, rfl, rfl, by decide, by decide, .inr (.inl ⟨e, rfl⟩), fun z => pw 3 4 z (by decide) (by decide)⟩
  · rw [e]; exact ⟨3, 7, rfl, rfl, by decide, by decide, .inr (.inr (.inl ⟨e, rfl⟩)), fun z => pw 4 3 z (by decide) (by decide)⟩
  · rw [e]; exact ⟨2, 5, rfl, rfl, by decide, by decide, .inr (.inr (.inr ⟨e, rfl⟩)), fun z => pw 5 2 z (by decide) (by decide)⟩
theorem good_look {y : Str} (hy : 0 < y.length) : goodB y = (decide ((turnsL y).count y = 1) && decide (V.str y = V.str (lt1 y))) := by
  rw [Bool.eq_iff_iff, good_iff hy, Bool.and_eq_true, decide_eq_true_eq, decide_eq_true_eq, count_one hy]
  refine and_congr Iff.rfl ⟨fun h => by rw [lt1_is hy (Turn.refl _) h], fun h => ?_⟩
  have yn : y.cps.toList ≠ [] := fun e => by
    have := congrArg List.length e
    rw [len_toList, List.length_nil] at this
    omega
  have := (lt1_ok yn).2
  rw [← V.str.inj h] at this
  exact this
def spPickT (K : PySem.W.Frag) : Sp := fun vs H Q _ => ∃ (d c : Addr) (n : Nat) (t : Addr) (xs : List V), vs = [.ref d, .ref t] ∧ xs ≠ [] ∧ xs.length < 1073741824 ∧ n < 1000000 ∧ DD H d c n ∧ t ≠ d ∧ t ≠ c ∧ H t = some (.tup xs) ∧
  ∀ (H' : Hp) (y : V), y ∈ xs → DD H' d c (n + 1) → But d c H H' → Q y H'
section
variable {P : Program} {w : World} {K : PySem.W.Frag} {mg : Str → Option Value} {base : Heap}
theorem ok_pickT {f f1 : Addr} {fd fd1 : FuncData} (F : Fun K "_law_pick" "_law_pick" sPick f fd) (T : Blt mg) (D1 : DefAt K mg "_law_draw" sDraw ["_law_deck_here", "_law_many"] f1 fd1) : FnOk P w K mg base CX0 2 f fd ["_law_deck_here", "_law_some"] (spPickT K) := by
  have G1 : FnOk P w K mg base CX0 1 f1 fd1 ["_law_deck_here", "_law_many"] spDraw := ok_draw D1.F T
  refine F.ok scPick (fun vs H Q E h => ?_) (fun cdv A outer s H vs Q E hr h => ?_)
  · obtain ⟨d, c, n, t, xs, rfl, _⟩ := h
    rfl
  · obtain ⟨d, c, n, t, xs, rfl, hne, hl, hn, D, td, tc, ht, k⟩ := h
    have lp : 0 < xs.length := List.length_pos_iff.mpr hne
    refine ⟨_, pss_one (ps_ret (pe_ix ix_seq (pv 1) (pc D1 G1 hr (pa_cons (pv 0) (pa_cons (pe_callB call_len (by rfl) T.len PySem.boot_len (pa_cons (pv 1) pa_nil)) pa_nil))) (fun _ _ => rfl))), ?_⟩
    have hlen : LenV K (V.ref t) H xs.length := .inr ⟨xs, SqT.of ht, rfl⟩
    refine ⟨_, rfl, _, rfl, _, rfl, _, _, rfl, hlen, ?_⟩
    refine ⟨d, c, n, _, rfl, by omega, by omega, hn, D, fun H' r h0 h1 D' B => ?_⟩
    obtain ⟨j, rfl⟩ : ∃ j : Nat, r = j := ⟨r.toNat, by omega⟩
    have hi : j < xs.length := by omega
    have mem : xs[j] ∈ xs := List.getElem_mem hi
    exact .inr (.inl ⟨t, xs, j, _, rfl, rfl, SqT.of (B t _ td tc ht), atI_nat (List.getElem?_eq_getElem hi), k _ _ mem D' B⟩)
abbrev nLaw : List Str := ["_law_script", "_law_deck_here", "_law_signs", "_law_place", "_law_size", "_law_words", "_law_item", "_law_due", "_law_turn", "_law_rest", "_law_more"]
theorem scLaw : FnScope nLaw ["_law_script"] (defScope sLaw) := ⟨rfl, rfl, rfl, by decide +kernel, rfl, by decide +kernel, by decide +kernel⟩
theorem ok_law {f : Addr} {fdl : FuncData} {fk fd fp fT fB fG fR fA fW fc fb fm : Addr} {dk dd dp dT dB dG dR dA dW dc db dm : FuncData} (F : Fun K "law" "law" sLaw f fdl) (T : Blt mg) (Dk : DefAt K mg "_law_deck" sDeck ["_law_script"] fk dk) (Dd : DefAt K mg "_law_draw" sDraw ["_law_deck_here", "_law_many"] fd dd)
    (Dp : DefAt K mg "_law_pick" sPick ["_law_deck_here", "_law_some"] fp dp) (DT : DefAt K mg "_law_turns" sTurns1 ["_law_item"] fT dT) (DB : DefAt K mg "_law_bare" sBare ["_law_item"] fB dB) (Dc : DefAt K mg "is_comma_free" sCF ["words"] fc dc)
    (DG : DefAt K mg "_law_great_right" sGreat ["_law_signs", "_law_size"] fG dG) (DW : DefAt K mg "_law_all_words" sAll ["_law_signs", "_law_size"] fW dW) (DA : DefAt K mg "_law_apart" sApart ["_law_words"] fA dA)
    (DR : DefAt K mg "letter_rings" sRings ["many", "length"] fR dR) (GR : FnOk P w K mg base CX0 3 fR dR ["many", "length"] Rg.spRings)
    (Db : DefAt K mg "comma_free_book" sBook ["letters", "length"] fb db) (Gb : FnOk P w K mg base CX0 4 fb db ["letters", "length"] spBook)
    (Dm : DefAt K mg "marked_turn" sMark ["letters", "word"] fm dm) (Gm : FnOk P w K mg base CX0 2 fm dm ["letters", "word"] spMark) :
    FnG P w K mg base CX0 6 f fdl ["_law_script"] (spLaw2 K) := by
  have Gk : FnOk P w K mg base CX0 1 fk dk ["_law_script"] (spDeck K) := ok_deck Dk.F T
  have Gd : FnOk P w K mg base CX0 1 fd dd ["_law_deck_here", "_law_many"] spDraw := ok_draw Dd.F T
  have Gp : FnOk P w K mg base CX0 2 fp dp ["_law_deck_here", "_law_some"] (spPick K) := ok_pick Dp.F T Dd
  have Gq : FnOk P w K mg base CX0 2 fp dp ["_law_deck_here", "_law_some"] (spPickT K) := ok_pickT Dp.F T Dd
  have GT : FnOk P w K mg base CX0 1 fT dT ["_law_item"] spT1 := ok_t1 DT.F T
  have GB : FnOk P w K mg base CX0 2 fB dB ["_law_item"] spBare := ok_bare DB.F DT GT
  have Gc : FnOk P w K mg base CX0 1 fc dc ["words"] (spCF K) := ok_cf Dc.F T
  have GA : FnOk P w K mg base CX0 1 fA dA ["_law_words"] (spApart K) := ok_apart DA.F T
  have GW : FnOk P w K mg base CX0 1 fW dW ["_law_signs", "_law_size"] Al.spAll := Al.ok_all DW.F T
  have GG : FnOk P w K mg base CX0 5 fG dG ["_law_signs", "_law_size"] spGreat := ok_great DG.F T Db Gb DT GT DB GB DR GR DA GA
  have kb := kk_book Db.F
  refine Ami.Fun.okG F (k := 5) scLaw (fun vs H Q E h => ?_) (fun cdv A' outer s H vs Q E hg hr h => ?_)
  · obtain ⟨a, ns, rfl, _⟩ := h
    rfl
  · obtain ⟨a, ns, rfl, hS, hlen, k⟩ := h
    have hr1 := hr.mono (j := 1) (by decide)
    have hr2 := hr.mono (j := 2) (by decide)
    have hr3 := hr.mono (j := 3) (by decide)
    have hr4 := hr.mono (j := 4) (by decide)
    have hgu := guards_deeper (envOfC "law" (defScope sLaw) s.heap.objs.size f cdv) hg
    have hun := hr.units
    refine ⟨_, pss_cons (ps_set (i := 1) scLaw.nd rfl (Or.inl rfl) (pc Dk Gk hr1 (pa_cons (pv 0) pa_nil)))
      (pss_cons (ps_set (i := 2) scLaw.nd rfl (Or.inl rfl) (pc Dp Gp hr2 (pa_cons (pv 1) (pa_cons (pe_lst (pa_cons pe_str (pa_cons pe_str (pa_cons pe_str (pa_cons pe_str (pa_cons pe_str (pa_cons pe_str pa_nil))))))) pa_nil))))
      (pss_cons (ps_set (i := 3) scLaw.nd rfl (Or.inl rfl) (pe_op op_sub (pe_callB call_len (by rfl) T.len PySem.boot_len (pa_cons (pv 2) pa_nil)) pe_int))
      (pss_cons (ps_set (i := 4) scLaw.nd rfl (Or.inl rfl) (pe_op op_add pe_int (pe_op op_mul pe_int (pc Dd Gd hr1 (pa_cons (pv 1) (pa_cons (pe_ix ix_seq (pe_lst (pa_cons pe_int (pa_cons pe_int (pa_cons pe_int (pa_cons pe_int pa_nil))))) (pv 3) (fun _ _ => rfl)) pa_nil))))))
      (pss_cons (ps_if (pt_cmpR op_eq (pc Dd Gd hr1 (pa_cons (pv 1) (pa_cons pe_int pa_nil))) pe_int (nomark _))
        (pss_one (ps_ret (pc DG GG hr (pa_cons (pv 2) (pa_cons (pe_ix ix_seq (pe_lst (pa_cons pe_int (pa_cons pe_int (pa_cons pe_int (pa_cons pe_int pa_nil))))) (pv 3) (fun _ _ => rfl)) pa_nil))))) pss_nil)
      (pss_cons (ps_set (i := 5) scLaw.nd rfl (Or.inl rfl) (pc Db Gb hr4 (pa_cons (pv 2) (pa_cons (pv 4) pa_nil))))
      (pss_cons (ps_setLc (i := 7) (own := [("_law_item", 6)]) (g := gName 6) rfl scLaw.nd rfl rfl (by rfl) (pi_list (pc DW GW hr1 (pa_cons (pv 2) (pa_cons (pv 4) pa_nil)))) (blkOk_by (own := [("_law_item", 6)]) (N := nLaw) (sc := defScope sLaw) (by decide +kernel)) (fun _ _ _ _ _ => pg_name (i := 6) scLaw.nd rfl (Or.inl rfl))
          (fun _ _ _ _ _ => pts_one (PW.pt (pw_and (pt_val (pc DB GB hr2 (pa_cons (pv 6) pa_nil))) (pw_and1 (pt_cmpR op_eq (pv 6) (pe_callB (cr_minT (K0 := K) rfl rfl hun) (by rfl) T.min (by rfl) (pa_cons (pc DT GT hr1 (pa_cons (pv 6) pa_nil)) pa_nil)) (nomark _))))))
          (fun _ _ _ _ _ => pv 6))
      (pss_cons (ps_if (PW.pt (pw_or (pt_cmpR op_ne (pe_callB (cr_repr hgu hun) (by rfl) T.repr (by decide +kernel) (pa_cons (pv 5) pa_nil))
            (pe_callB (cr_repr hgu hun) (by rfl) T.repr (by decide +kernel) (pa_cons (pe_callTy call_tuple_of (by rfl) T.tuple (by decide +kernel) (pa_cons (pe_callB cr_sortedTT (by rfl) T.sorted (by decide +kernel) (pa_cons (pv 5) pa_nil)) pa_nil)) pa_nil)) (nomark _))
          (pw_or1 (pt_cmpR (op_neD hun) (pv 5) (pe_callK0 Gb hr4 (by rfl) Db.g Db.F.kp kb pass0 (pk_cons (pv 4) (pk_cons (pv 2) pk_nil))) (nomark _))))) (pss_one (ps_ret pe_bl)) pss_nil)
      (pss_cons (ps_if (PW.pt (pw_or (pt_cmpR (op_neD hun) (pe_callB cr_sortedT (by rfl) T.sorted (by decide +kernel) (pa_cons (pe_lc (own := [("_law_item", 6)]) (g := gName 6) (tt := tYes) rfl scLaw.nd (pi_tup (pv 5))
              (blkOk_by (own := [("_law_item", 6)]) (N := nLaw) (sc := defScope sLaw) (by decide +kernel)) (fun _ _ _ _ _ => pg_name (i := 6) scLaw.nd rfl (Or.inl rfl)) (fun _ _ _ _ _ => pts_nil)
              (fun _ _ _ _ _ => pe_callB (cr_minT (K0 := K) rfl rfl hun) (by rfl) T.min (by rfl) (pa_cons (pc DT GT hr1 (pa_cons (pv 6) pa_nil)) pa_nil))) pa_nil)) (pv 7) (nomark _))
          (pw_or1 (pt_cmpR op_ne (pc DR GR hr3 (pa_cons (pe_callB call_len (by rfl) T.len PySem.boot_len (pa_cons (pv 2) pa_nil)) (pa_cons (pv 4) pa_nil))) (pe_callB call_len (by rfl) T.len PySem.boot_len (pa_cons (pv 7) pa_nil)) (nomark _))))) (pss_one (ps_ret pe_bl)) pss_nil)
      (pss_cons (ps_if (PW.pt (pw_or (pt_not (pt_val (pc DA GA hr1 (pa_cons (pv 5) pa_nil)))) (pw_or1 (pt_cmpR op_isnotB (pc Dc Gc hr1 (pa_cons (pv 5) pa_nil)) pe_bl (nomark _))))) (pss_one (ps_ret pe_bl)) pss_nil)
      (pss_cons (ps_for PassesOwn.never rfl (pi_range1 (by rfl) T.range (pa_cons pe_int pa_nil)) (pg_name (i := 8) scLaw.nd rfl (Or.inl rfl))
        (pss_cons (ps_set (i := 6) scLaw.nd rfl (Or.inl rfl) (pc Dp Gq hr2 (pa_cons (pv 1) (pa_cons (pv 5) pa_nil))))
        (pss_cons (ps_for PassesOwn.never rfl (pi_list (pc DT GT hr1 (pa_cons (pv 6) pa_nil))) (pg_name (i := 9) scLaw.nd rfl (Or.inl rfl))
          (pss_one (ps_if (pt_cmpR op_ne (pc Dm Gm hr2 (pa_cons (pv 2) (pa_cons (pv 9) pa_nil))) (pv 6) (nomark _)) (pss_one (ps_ret pe_bl)) pss_nil)))
        (pss_cons (ps_set (i := 10) scLaw.nd rfl (Or.inl rfl) (pc Dp Gp hr2 (pa_cons (pv 1) (pa_cons (pc DT GT hr1 (pa_cons (pv 6) pa_nil)) pa_nil))))
        (pss_one (ps_if (PW.pt (pw_and (pt_cmpR op_lt (pv 8) pe_int (nomark _)) (pw_and (pt_cmpR op_ne (pv 10) (pv 6) (nomark _))
          (pw_and1 (pt_val (pc Dc Gc hr1 (pa_cons (pe_callTy call_tuple_of (by rfl) T.tuple (by decide +kernel) (pa_cons (pe_callB cr_sortedT (by rfl) T.sorted (by decide +kernel) (pa_cons (pe_op op_cat (pe_callTy call_list_of (by rfl) T.list (by decide +kernel) (pa_cons (pv 5) pa_nil)) (pe_lst (pa_cons (pv 10) pa_nil))) pa_nil)) pa_nil)) pa_nil)))))))
          (pss_one (ps_ret pe_bl)) pss_nil))))))
      (pss_one (ps_ret pe_bl)))))))))))), ?_⟩
    have ne : ∀ x : V, (!decide (x = x)) = false := fun x => by rw [decide_eq_true rfl]; rfl
    refine ⟨_, rfl, a, ns, rfl, hS, hlen, fun H1 d c hd hc D s1 => ?_⟩
    refine ⟨_, rfl, (by show 6 ≤ sizeLine; decide), fun p hp => ?_⟩
    obtain ⟨npd, npc⟩ := D.ned hp
    refine ⟨d, c, 0, .ref p, sg.map V.str, rfl, (fun e => nomatch e), (by show 6 < 1073741824; decide), by decide, D.new hp, fun H' B => .lst (SqL.of (B p _ npd npc upd_same)), fun H3 y hy D3 B3 => ?_⟩
    obtain ⟨S, rfl, hI, S2, S5, SA⟩ := signs_are hy
    have nS := hI.nd
    have lS : (⟨S.toArray⟩ : Str).length = S.length := by show S.toArray.size = _; rw [List.size_toArray]
    have lenS : ∀ H', LenV K (tV S) H' S.length := fun H' => ⟨by rw [lS]; exact Nat.le_trans S5 (by decide), lS.symm⟩
    refine ⟨_, rfl, _, S.length, rfl, lenS _, _, _, rfl, rfl, ?_⟩
    have epl : ((S.length : Nat) : Int) - 2 = ((S.length - 2 : Nat) : Int) := by omega
    show gName 3 (V.int (((S.length : Nat) : Int) - 2)) _ _ _
    rw [epl]
    obtain ⟨mo, gr, hmo, hgr, mo2, mo6, hG, hpow⟩ := sizes_are S2 S5
    refine ⟨_, rfl, (by show 4 ≤ sizeLine; decide), fun q hq => ?_⟩
    refine ⟨_, rfl, .inl ⟨q, _, ((S.length - 2 : Nat) : Int), _, rfl, rfl, SqL.of upd_same, atI_nat hmo, ?_⟩⟩
    refine ⟨d, c, 1, mo, rfl, by omega, by omega, by decide, D3.new hq, fun H4 x x0 x1 D4 B4 => ⟨_, _, rfl, rfl, .inl ⟨by decide, by decide⟩, _, _, rfl, rfl, ?_⟩⟩
    obtain ⟨z, hz, zo, z1, z13⟩ : ∃ z : Nat, 1 + 2 * x = (z : Int) ∧ z % 2 = 1 ∧ 1 ≤ z ∧ z < 2 * mo := ⟨(1 + 2 * x).toNat, by omega, by omega, by omega, by omega⟩
    show gName 4 (V.int (1 + 2 * x)) _ _ _
    rw [hz]
    refine ⟨_, rfl, d, c, 2, 8, rfl, by decide, by decide, by decide, D4, fun H5 r r0 r1 D5 B5 => ⟨rfl, _, rfl, ?_⟩⟩
    cases h8 : decide (V.int r = V.int 1) with
    | true =>
      refine iteT ?_
      refine ⟨_, rfl, (by show 4 ≤ sizeLine; decide), fun q2 hq2 => ?_⟩
      exact ⟨_, rfl, .inl ⟨q2, _, ((S.length - 2 : Nat) : Int), _, rfl, rfl, SqL.of upd_same, atI_nat hgr, S, gr, rfl, hI, hG, SA, fun H' _ => k _⟩⟩
    | false =>
    refine iteF ?_
    have zp := hpow z z13
    refine ⟨_, rfl, _, rfl, S, z, rfl, nS, S2, S5, zo, by omega, by omega, fun ws ss t H6 s6 ht et hall hperm hup => ?_⟩
    obtain ⟨ntd, ntc⟩ := D5.ned ht
    have D6 := D5.same s6
    have B := book_of hI (by omega) (by omega) hall hperm hup
    have asc : ∀ y ∈ ss, Asc y := fun y hy c hc => SA c (B.mem y hy c hc)
    have okS := okF_texts asc
    have ly : ∀ y ∈ ss, y.length = z := B.len
    have ndue := good_count hI (by omega : 0 < S.length) (by omega : 0 < z)
    have ldue : ((wordsS S z).filter goodB).length ≤ 2500 := by
      refine Nat.le_trans (List.length_filter_le _ _) ?_
      unfold wordsS
      rw [List.length_map, K02m.w_length]; exact zp
    have lss : ss.length ≤ 2500 := by
      have := B.mins.length_eq
      rw [List.length_map] at this
      omega
    refine ⟨_, rfl, _, rfl, S, z, rfl, by omega, by omega, by omega, by omega, fun D0 H7 hD0 s7 eD0 => ?_⟩
    have eD0 : H7 D0 = some (.lst ((wordsS S z).map V.str)) := by
      unfold wordsS
      rw [List.map_map]
      exact eD0
    refine ⟨D0, rfl, ⟨_, SqL.of eD0⟩, fun C hC => ?_⟩
    refine lc_list (K := K) (a := D0) (xs := (wordsS S z).map V.str) (fun i H' => H' C = some (.lst ((((wordsS S z).take i).filter goodB).map V.str)) ∧ Same H7 H') ⟨upd_same, Same.upd hC⟩ (fun i H' _ ⟨_, sm⟩ => SqL.of (sm _ _ eD0)) ?_ ?_
    · rintro i x1 H' hx ⟨eC, sm⟩
      rw [List.getElem?_map] at hx
      obtain ⟨y, hy, rfl⟩ : ∃ y, (wordsS S z)[i]? = some y ∧ x1 = V.str y := by
        cases e : (wordsS S z)[i]? with
        | none => rw [e] at hx; exact nomatch hx
        | some p => rw [e] at hx; cases hx; exact ⟨p, rfl, rfl⟩
      have yl := (words_in (by omega) (List.mem_of_getElem? hy)).1
      have etk : ((wordsS S z).take (i + 1)).filter goodB = ((wordsS S z).take i).filter goodB ++ (if goodB y = true then [y] else []) := by
        rw [List.take_add_one, hy, List.filter_append]
        show _ ++ List.filter _ [y] = _
        rw [List.filter_cons]; rfl
      have gl := good_look (y := y) (by omega)
      refine ⟨rfl, ?_⟩
      refine ⟨_, rfl, y, rfl, by omega, by omega, fun H8 s8 => ⟨_, rfl, ?_⟩⟩
      rw [etk]
      cases hb : decide ((turnsL y).count y = 1) with
      | false =>
        rw [hb, Bool.false_and] at gl
        refine iteF (iteF ⟨?_, sm.trans s8⟩)
        rw [gl, if_neg Bool.false_ne_true, List.append_nil]
        exact s8 _ _ eC
      | true =>
        rw [hb, Bool.true_and] at gl
        refine iteT ?_
        refine ⟨_, rfl, _, rfl, y, rfl, by omega, fun L H9 s9 _ eL => ⟨L, turnsL y, rfl, SqL.of eL, fun e => ?_, fun m hm hmin => ?_⟩⟩
        · have := congrArg List.length e
          rw [turnsL_len, List.length_nil] at this
          omega
        rw [min_is (by omega) hm hmin]
        refine ⟨rfl, _, rfl, ?_⟩
        rw [← gl]
        have eC9 := s9 _ _ (s8 _ _ eC)
        cases hg : goodB y with
        | false =>
          refine iteF ⟨?_, (sm.trans s8).trans s9⟩
          rw [if_neg Bool.false_ne_true, List.append_nil]
          exact eC9
        | true =>
          refine iteT ⟨_, rfl, _, eC9, ?_, ?_, same_put ((sm.trans s8).trans s9) hC⟩
          · rw [List.length_map]
            refine Nat.lt_of_le_of_lt (List.length_filter_le _ _) (Nat.lt_of_le_of_lt (List.length_take_le' _ _) ?_)
            unfold wordsS
            rw [List.length_map, K02m.w_length]
            exact Nat.lt_of_le_of_lt zp (by decide)
          · rw [upd_same, if_pos rfl, List.map_append]; rfl
    rintro H8 ⟨eC, sm8⟩
    rw [List.length_map, List.take_length] at eC
    have s68 : Same H6 H8 := s7.trans sm8
    have et8 := s68 _ _ et
    have D8 := D6.same s68
    obtain ⟨r1, r2, r3, r4, r5⟩ := tup_repr (K := K) asc ly (by omega) (by omega) (SqT.of et8)
    refine ⟨_, rfl, V.ref t, _, rfl, r1, r2, r3, r4, r5, ?_⟩
    refine ⟨_, rfl, t, ss, rfl, SqT.of et8, fun ys p2 hys hyu hp2 => ?_⟩
    obtain rfl : ys = ss := up_uniq hyu B.up hys
    refine ⟨p2, _, rfl, .inl ⟨SqL.of upd_same, fun u hu => ?_⟩⟩
    obtain ⟨q1, q2, q3, q4, q5⟩ := tup_repr (K := K) (H := upd (upd H8 p2 (.lst (ys.map V.str))) u (.tup (ys.map V.str))) (p := u) asc ly (by omega) (by omega) (SqT.of upd_same)
    refine ⟨V.ref u, _, rfl, q1, q2, q3, q4, q5, rfl, _, rfl, ?_⟩
    rw [ne]
    refine iteF ?_
    clear q1 q2 q3 q4 q5 r1 r2 r3 r4 r5
    have s9 : Same H8 (upd (upd H8 p2 (.lst (ys.map V.str))) u (.tup (ys.map V.str))) := (Same.upd hp2).trans (Same.upd hu)
    revert s9
    generalize upd (upd H8 p2 (.lst (ys.map V.str))) u (.tup (ys.map V.str)) = H9
    intro s9
    have et9 := s9 _ _ et8
    refine ⟨_, rfl, _, rfl, _, rfl, S, z, rfl, nS, S2, S5, zo, by omega, by omega, fun ws2 ss2 t2 H10 s10 _ et2 hall2 hperm2 hup2 => ?_⟩
    obtain rfl : ss2 = ys := (book_of hI (by omega) (by omega) hall2 hperm2 hup2).same B zo
    have et10 := s10 _ _ et9
    refine ⟨_, _, .tup (SqT.of et10) (dpAll_flat okS), .tup (SqT.of et2) (dpAll_flat okS), shaped_tup okS, shaped_tup okS, _, rfl, ?_⟩
    refine iteN (PySem.SeqAt.eqv_refl _ (canLayAll_flat okS)) ?_
    have eC10 := s10 _ _ (s9 _ _ eC)
    have D10 := (D8.same s9).same s10
    refine ⟨_, rfl, t, rfl, ⟨_, SqT.of et10⟩, fun C2 hC2 => ?_⟩
    refine lc_tup (K := K) (a := t) (xs := ss2.map V.str) (fun i H' => H' C2 = some (.lst (((ss2.take i).map lt1).map V.str)) ∧ Same H10 H') ⟨upd_same, Same.upd hC2⟩ (fun i H' _ ⟨_, sm⟩ => SqT.of (sm _ _ et10)) ?_ ?_
    · rintro i x1 H' hx ⟨eC', sm⟩
      rw [List.getElem?_map] at hx
      obtain ⟨y, hy, rfl⟩ : ∃ y, ss2[i]? = some y ∧ x1 = V.str y := by
        cases e : ss2[i]? with
        | none => rw [e] at hx; exact nomatch hx
        | some p => rw [e] at hx; cases hx; exact ⟨p, rfl, rfl⟩
      have yl := ly y (List.mem_of_getElem? hy)
      have etk : ss2.take (i + 1) = ss2.take i ++ [y] := by rw [List.take_add_one, hy]; rfl
      refine ⟨rfl, ?_⟩
      dsimp only [tYes]
      refine iteT ?_
      refine ⟨_, rfl, y, rfl, by omega, fun L H11 s11 _ eL => ⟨L, turnsL y, rfl, SqL.of eL, fun e => ?_, fun m hm hmin => ?_⟩⟩
      · have := congrArg List.length e
        rw [turnsL_len, List.length_nil] at this
        omega
      rw [min_is (by omega) hm hmin]
      refine ⟨_, s11 _ _ eC', ?_, ?_, same_put (sm.trans s11) hC2⟩
      · rw [List.length_map, List.length_map, List.length_take]
        exact Nat.lt_of_le_of_lt (Nat.le_trans (Nat.min_le_right _ _) lss) (by decide)
      · rw [upd_same, etk, List.map_append, List.map_append]; rfl
    rintro H11 ⟨eC2, s11⟩
    rw [List.length_map, List.take_length] at eC2
    refine ⟨C2, ss2.map lt1, rfl, SqL.of eC2, fun ds p3 hds hdu hp3 => ?_⟩
    obtain rfl : ds = (wordsS S z).filter goodB := up_uniq hdu ((words_Up hI z).filter _) (hds.trans B.mins)
    have ascD : ∀ y ∈ (wordsS S z).filter goodB, Asc y := fun y hy c hc => SA c ((words_in (by omega) (List.mem_filter.mp hy).1).2 c hc)
    have okD := okF_texts ascD
    have eC11 := s11 _ _ eC10
    refine ⟨_, rfl, _, _, .lst (SqL.of upd_same) (dpAll_flat okD), .lst (SqL.of (Same.upd hp3 _ _ eC11)) (dpAll_flat okD), shaped_list okD, shaped_list okD, _, rfl, ?_⟩
    refine iteN (PySem.SeqAt.eqv_refl _ (canLayAll_flat okD)) ?_
    have s12 : Same H10 (upd H11 p3 (.lst (((wordsS S z).filter goodB).map V.str))) := s11.trans (Same.upd hp3)
    revert s12
    generalize upd H11 p3 (.lst (((wordsS S z).filter goodB).map V.str)) = H12
    intro s12
    have eC12 := s12 _ _ eC10
    refine ⟨_, rfl, _, S.length, rfl, lenS _, _, rfl, S.length, z, rfl, by omega, by omega, by omega, fun H13 s13 => ⟨_, rfl, _, ((wordsS S z).filter goodB).length, rfl, .inl ⟨_, SqL.of (s13 _ _ eC12), (List.length_map ..).symm⟩, rfl, _, rfl, ?_⟩⟩
    rw [← ndue, ne]
    refine iteF ?_
    have et13 := s13 _ _ (s12 _ _ et10)
    refine ⟨_, rfl, t, ss2, z, rfl, SqT.of et13, ly, by omega, by omega, by omega, fun H14 s14 => ⟨_, rfl, ?_⟩⟩
    have fr := B.free zo
    refine iteN fr ?_
    have et14 := s14 _ _ et13
    refine ⟨_, rfl, t, ss2, z, rfl, SqT.of et14, ly, by omega, by omega, fun H15 s15 => ⟨_, _, rfl, rfl, _, rfl, ?_⟩⟩
    rw [fr]
    refine iteF ?_
    have et15 := s15 _ _ et14
    have D15 := (((D10.same s12).same s13).same s14).same s15
    clear B4 B5 s1 s6 s7 s68 s9 s10 s11 s12 s13 s14 s15 sm8
    obtain ⟨x0', hx0⟩ : ∃ y, y ∈ ss2 := by
      obtain ⟨c0, hc0⟩ : ∃ c, c ∈ S := ⟨S[0], List.getElem_mem (by omega)⟩
      by_cases h1 : 2 ≤ z
      · obtain ⟨y, hy, _⟩ := B.letter nS S2 h1 hc0
        exact ⟨y, hy⟩
      · have ez : z = 1 := by omega
        have hp : Rng.Prim [c0] := by
          rw [Rng.prim_iff (by simp)]
          rintro ⟨j, j0, jn, _⟩
          have : ([c0] : List Nat).length = 1 := rfl
          omega
        obtain ⟨y, hy, _⟩ := B.ring [c0] hp (fun c hc => by rw [List.mem_singleton.mp hc]; exact hc0) ez.symm
        exact ⟨y, hy⟩
    have ne0 : ss2.map V.str ≠ [] := fun e => by
      rw [List.map_eq_nil_iff.mp e] at hx0
      exact nomatch hx0
    have zS : S.length ≤ 5 := S5
    refine ⟨_, rfl, by decide, by decide, ?_⟩
    refine for_range (lo := 0) (n := 6) (fun i' σ H' => ∃ (m : Nat) (v6 v8 v9 v10 : Option V), σ = [some (.ref a), some (.ref d), some (tV S), some (.int ((S.length - 2 : Nat) : Int)), some (.int z), some (.ref t), v6, some (.ref C), v8, v9, v10] ∧ m ≤ 3 + 2 * i' ∧ DD H' d c m ∧ H' t = some (.tup (ss2.map V.str)))
      ⟨3, _, _, _, _, rfl, by omega, D15, et15⟩ ?_ ?_
    · rintro i' σ H16 hi' ⟨m, v6, v8, v9, v10, rfl, hm, D16, et16⟩
      refine ⟨_, rfl, _, rfl, d, c, m, t, ss2.map V.str, rfl, ne0, by rw [List.length_map]; omega, by omega, D16, ntd, ntc, et16, fun H17 y hy D17 B17 => ?_⟩
      obtain ⟨x1, hx1, rfl⟩ := List.mem_map.mp hy
      have l1 := ly x1 hx1
      have m1 := B.mark x1 hx1
      have p1 := B.prim x1 hx1
      have et17 := B17 t _ ntd ntc et16
      refine ⟨_, rfl, x1, rfl, by omega, fun L H18 s18 hL eL => ⟨L, rfl, ⟨_, SqL.of eL⟩, ?_⟩⟩
      refine for_list (K := K) (a := L) (xs := (turnsL x1).map V.str) (fun j σ H' => ∃ v9 : Option V, σ = [some (.ref a), some (.ref d), some (tV S), some (.int ((S.length - 2 : Nat) : Int)), some (.int z), some (.ref t), some (.str x1), some (.ref C), some (.int (0 + (i' : Nat))), v9, v10] ∧ Same H18 H')
        ⟨_, rfl, Same.refl _⟩ (fun j σ H' _ ⟨_, _, sm⟩ => SqL.of (sm _ _ eL)) ?_ ?_
      · rintro j x2 σ H' hx ⟨v9', rfl, sm⟩
        obtain ⟨r, hr, rfl⟩ := List.mem_map.mp (List.mem_of_getElem? hx)
        have tr : Turn x1.cps.toList r.cps.toList := (turnsL_turn (by omega)).mp hr
        have trl := tr.len
        rw [len_toList, len_toList] at trl
        refine ⟨_, rfl, _, rfl, tV S, r.cps.toList, congrArg (fun q => [tV S, V.str q]) (str_bk r).symm, tr.prim p1, by rw [len_toList]; omega, by rw [len_toList]; omega, fun H19 v2 s19 tv2 mv2 => ?_⟩
        have e : v2 = x1.cps.toList := mark_one (tr.trans tv2) (Turn.refl _) mv2 m1 (by rw [len_toList]; omega)
        have e2 : tV v2 = V.str x1 := by rw [e]
        rw [e2]
        refine ⟨_, rfl, rfl, _, rfl, ?_⟩
        rw [ne]
        exact iteF ⟨_, rfl, sm.trans s19⟩
      · rintro σ H20 ⟨v9', rfl, s20⟩
        have D20 := (D17.same s18).same s20
        have et20 := s20 _ _ (s18 _ _ et17)
        refine ⟨_, rfl, _, rfl, x1, rfl, by omega, fun L3 H21 s21 hL3 eL3 => ?_⟩
        obtain ⟨nLd, nLc⟩ := D20.ned hL3
        have D21 := D20.same s21
        refine ⟨d, c, m + 1, .ref L3, (turnsL x1).map V.str, rfl, fun e => ?_, by rw [List.length_map, turnsL_len]; omega, by omega, D21, fun H' B' => .lst (SqL.of (B' L3 _ nLd nLc eL3)), fun H22 y2 hy2 D22 B22 => ?_⟩
        · have := congrArg List.length e
          rw [List.length_map, turnsL_len, List.length_nil] at this
          omega
        obtain ⟨x3, hx3, rfl⟩ := List.mem_map.mp hy2
        have t3 := (turnsL_turn (by omega)).mp hx3
        have l3 : x3.length = z := by
          have := t3.len
          rw [len_toList, len_toList] at this
          omega
        have et22 := B22 t _ ntd ntc (s21 _ _ et20)
        have fin : ∀ H', Same H22 H' → ∃ (m' : Nat) (u6 u8 u9 u10 : Option V), [some (V.ref a), some (.ref d), some (tV S), some (.int ((S.length - 2 : Nat) : Int)), some (.int z), some (.ref t), some (.str x1), some (.ref C), some (.int (0 + (i' : Nat))), v9', some (.str x3)] = [some (V.ref a), some (.ref d), some (tV S), some (.int ((S.length - 2 : Nat) : Int)), some (.int z), some (.ref t), u6, some (.ref C), u8, u9, u10] ∧ m' ≤ 3 + 2 * (i' + 1) ∧ DD H' d c m' ∧ H' t = some (.tup (ss2.map V.str)) :=
          fun H' s' => ⟨m + 2, _, _, _, _, rfl, by omega, D22.same s', s' _ _ et22⟩
        refine ⟨_, rfl, _, _, rfl, rfl, _, rfl, ?_⟩
        cases h2 : decide ((0 + (i' : Nat) : Int) < 2) with
        | false => exact iteF (iteF (fin _ (Same.refl _)))
        | true =>
        refine iteT ?_
        refine ⟨_, rfl, _, rfl, rfl, _, rfl, ?_⟩
        cases h3 : decide (V.str x3 = V.str x1) with
        | true => exact iteF (iteF (fin _ (Same.refl _)))
        | false =>
        have ne3 : x3 ≠ x1 := fun e => of_decide_eq_false h3 (congrArg V.str e)
        refine iteT ?_
        refine ⟨_, rfl, t, _, rfl, .inr (SqT.of et22), fun l hl => ?_⟩
        refine ⟨_, rfl, (by show 1 ≤ sizeLine; decide), fun q4 hq4 => ?_⟩
        refine ⟨l, q4, _, _, rfl, rfl, Same.upd hq4 _ _ upd_same, upd_same, ?_, fun p5 hp5 => ?_⟩
        · rw [List.length_map]; exact Nat.le_trans (by show ss2.length + 1 ≤ 3000; omega) (by decide)
        have eap : ss2.map V.str ++ [V.str x3] = (ss2 ++ [x3]).map V.str := by rw [List.map_append]; rfl
        rw [eap]
        refine ⟨p5, ss2 ++ [x3], rfl, SqL.of upd_same, fun zs p6 hzs hzu hp6 => ⟨p6, _, rfl, .inl ⟨SqL.of upd_same, fun u6 hu6 => ?_⟩⟩⟩
        have lz : ∀ w ∈ zs, w.length = z := fun w hw => by
          rcases List.mem_append.mp (hzs.mem_iff.mp hw) with h | h
          · exact ly w h
          · rw [List.mem_singleton.mp h]; exact l3
        have lzs : zs.length ≤ 3000 := by
          have := hzs.length_eq
          rw [List.length_append] at this
          show zs.length ≤ 3000
          have e1 : ([x3] : List Str).length = 1 := rfl
          omega
        refine ⟨u6, zs, z, rfl, SqT.of upd_same, lz, lzs, by omega, fun H23 s23 => ⟨_, rfl, ?_⟩⟩
        rw [one_more hx1 hzs hx3 ne3]
        exact iteF (fin _ (((((Same.upd hl).trans (Same.upd hq4)).trans (Same.upd hp5)).trans (Same.upd hp6)).trans ((Same.upd hu6).trans s23)))
    · rintro σ H16 ⟨m, v6, v8, v9, v10, rfl, hm, D16, et16⟩
      exact k _
end
end K49

set_option Elab.async false
set_option linter.all false
set_option maxRecDepth 100000
namespace K49
open PySem PySem.Spec PyProof.Rows L2 Ami
theorem all_mk {l : PySem.W.OpenLaw} {w : World} {K : PySem.W.Frag} {h : Heap} {mg : Str → Option Value} {fa f1 f2 f3 f4 f5 f6 f7 f8 f9 f10 f11 f12 f13 f14 f15 f16 f17 f18 f19 f20 f21 : Addr} (X : K.In h) (G : h.Ns mainGlobals mg) (hfa : mg "law" = some (.ref fa))
    {od1 an1 od2 an2 od3 an3 od4 an4 od5 an5 od6 an6 od7 an7 od8 an8 od9 an9 od10 an10 od11 an11 od12 an12 od13 an13 od14 an14 od15 an15 od16 an16 od17 an17 od18 an18 od19 an19 od20 an20 od21 an21 : Option Addr} {sl1 sl2 sl3 sl4 sl5 sl6 sl7 sl8 sl9 sl10 sl11 sl12 sl13 sl14 sl15 sl16 sl17 sl18 sl19 sl20 sl21 : Array (Option Value)} {oc1 kV1 dc1 pm1 cd1 ct1 oc2 kV2 dc2 pm2 cd2 ct2 oc3 kV3 dc3 pm3 cd3 ct3 oc4 kV4 dc4 pm4 cd4 ct4 oc5 kV5 dc5 pm5 cd5 ct5 oc6 kV6 dc6 pm6 cd6 ct6 oc7 kV7 dc7 pm7 cd7 ct7 oc8 kV8 dc8 pm8 cd8 ct8 oc9 kV9 dc9 pm9 cd9 ct9 oc10 kV10 dc10 pm10 cd10 ct10 oc11 kV11 dc11 pm11 cd11 ct11 oc12 kV12 dc12 pm12 cd12 ct12 oc13 kV13 dc13 pm13 cd13 ct13 oc14 kV14 dc14 pm14 cd14 ct14 oc15 kV15 dc15 pm15 cd15 ct15 oc16 kV16 dc16 pm16 cd16 ct16 oc17 kV17 dc17 pm17 cd17 ct17 oc18 kV18 dc18 pm18 cd18 ct18 oc19 kV19 dc19 pm19 cd19 ct19 oc20 kV20 dc20 pm20 cd20 ct20 oc21 kV21 dc21 pm21 cd21 ct21 : Value}
    (a1 : PySem.W.nsIn K mainGlobals "words_with" = some (some (.ref f1))) (l1 : K.lookup f1 = some ⟨oc1, od1, .func (PySem.W.fnOf "words_with" "words_with" (defArgs sWith) (defBody sWith) (defScope sWith) .none kV1 dc1 pm1 an1 cd1 ct1), sl1⟩) (c1 : PySem.W.codeIn K cd1 "words_with" = true) (k1 : PySem.W.keepIn K (.ref f1) = true)
    (a2 : PySem.W.nsIn K mainGlobals "word_after" = some (some (.ref f2))) (l2 : K.lookup f2 = some ⟨oc2, od2, .func (PySem.W.fnOf "word_after" "word_after" (defArgs sAfter) (defBody sAfter) (defScope sAfter) .none kV2 dc2 pm2 an2 cd2 ct2), sl2⟩) (c2 : PySem.W.codeIn K cd2 "word_after" = true) (k2 : PySem.W.keepIn K (.ref f2) = true)
    (a3 : PySem.W.nsIn K mainGlobals "turns" = some (some (.ref f3))) (l3 : K.lookup f3 = some ⟨oc3, od3, .func (PySem.W.fnOf "turns" "turns" (defArgs sTurns) (defBody sTurns) (defScope sTurns) .none kV3 dc3 pm3 an3 cd3 ct3), sl3⟩) (c3 : PySem.W.codeIn K cd3 "turns" = true) (k3 : PySem.W.keepIn K (.ref f3) = true)
    (a4 : PySem.W.nsIn K mainGlobals "least_turn" = some (some (.ref f4))) (l4 : K.lookup f4 = some ⟨oc4, od4, .func (PySem.W.fnOf "least_turn" "least_turn" (defArgs sLeast) (defBody sLeast) (defScope sLeast) .none kV4 dc4 pm4 an4 cd4 ct4), sl4⟩) (c4 : PySem.W.codeIn K cd4 "least_turn" = true) (k4 : PySem.W.keepIn K (.ref f4) = true)
    (a5 : PySem.W.nsIn K mainGlobals "is_repeated" = some (some (.ref f5))) (l5 : K.lookup f5 = some ⟨oc5, od5, .func (PySem.W.fnOf "is_repeated" "is_repeated" (defArgs sRep) (defBody sRep) (defScope sRep) .none kV5 dc5 pm5 an5 cd5 ct5), sl5⟩) (c5 : PySem.W.codeIn K cd5 "is_repeated" = true) (k5 : PySem.W.keepIn K (.ref f5) = true)
    (a6 : PySem.W.nsIn K mainGlobals "is_comma_free" = some (some (.ref f6))) (l6 : K.lookup f6 = some ⟨oc6, od6, .func (PySem.W.fnOf "is_comma_free" "is_comma_free" (defArgs sCF) (defBody sCF) (defScope sCF) .none kV6 dc6 pm6 an6 cd6 ct6), sl6⟩) (c6 : PySem.W.codeIn K cd6 "is_comma_free" = true) (k6 : PySem.W.keepIn K (.ref f6) = true)
    (a7 : PySem.W.nsIn K mainGlobals "comma_free_book" = some (some (.ref f7))) (l7 : K.lookup f7 = some ⟨oc7, od7, .func (PySem.W.fnOf "comma_free_book" "comma_free_book" (defArgs sBook) (defBody sBook) (defScope sBook) .none kV7 dc7 pm7 an7 cd7 ct7), sl7⟩) (c7 : PySem.W.codeIn K cd7 "comma_free_book" = true) (k7 : PySem.W.keepIn K (.ref f7) = true)
    (a8 : PySem.W.nsIn K mainGlobals "marked_turn" = some (some (.ref f8))) (l8 : K.lookup f8 = some ⟨oc8, od8, .func (PySem.W.fnOf "marked_turn" "marked_turn" (defArgs sMark) (defBody sMark) (defScope sMark) .none kV8 dc8 pm8 an8 cd8 ct8), sl8⟩) (c8 : PySem.W.codeIn K cd8 "marked_turn" = true) (k8 : PySem.W.keepIn K (.ref f8) = true)
    (a9 : PySem.W.nsIn K mainGlobals "parts_joined" = some (some (.ref f9))) (l9 : K.lookup f9 = some ⟨oc9, od9, .func (PySem.W.fnOf "parts_joined" "parts_joined" (defArgs sJoin) (defBody sJoin) (defScope sJoin) .none kV9 dc9 pm9 an9 cd9 ct9), sl9⟩) (c9 : PySem.W.codeIn K cd9 "parts_joined" = true) (k9 : PySem.W.keepIn K (.ref f9) = true)
    (a10 : PySem.W.nsIn K mainGlobals "rings_in" = some (some (.ref f10))) (l10 : K.lookup f10 = some ⟨oc10, od10, .func (PySem.W.fnOf "rings_in" "rings_in" (defArgs sRin) (defBody sRin) (defScope sRin) .none kV10 dc10 pm10 an10 cd10 ct10), sl10⟩) (c10 : PySem.W.codeIn K cd10 "rings_in" = true) (k10 : PySem.W.keepIn K (.ref f10) = true)
    (a11 : PySem.W.nsIn K mainGlobals "all_letter_rings" = some (some (.ref f11))) (l11 : K.lookup f11 = some ⟨oc11, od11, .func (PySem.W.fnOf "all_letter_rings" "all_letter_rings" (defArgs sAllR) (defBody sAllR) (defScope sAllR) .none kV11 dc11 pm11 an11 cd11 ct11), sl11⟩) (c11 : PySem.W.codeIn K cd11 "all_letter_rings" = true) (k11 : PySem.W.keepIn K (.ref f11) = true)
    (a12 : PySem.W.nsIn K mainGlobals "letter_rings" = some (some (.ref f12))) (l12 : K.lookup f12 = some ⟨oc12, od12, .func (PySem.W.fnOf "letter_rings" "letter_rings" (defArgs sRings) (defBody sRings) (defScope sRings) .none kV12 dc12 pm12 an12 cd12 ct12), sl12⟩) (c12 : PySem.W.codeIn K cd12 "letter_rings" = true) (k12 : PySem.W.keepIn K (.ref f12) = true)
    (a13 : PySem.W.nsIn K mainGlobals "_law_deck" = some (some (.ref f13))) (l13 : K.lookup f13 = some ⟨oc13, od13, .func (PySem.W.fnOf "_law_deck" "_law_deck" (defArgs sDeck) (defBody sDeck) (defScope sDeck) .none kV13 dc13 pm13 an13 cd13 ct13), sl13⟩) (c13 : PySem.W.codeIn K cd13 "_law_deck" = true) (k13 : PySem.W.keepIn K (.ref f13) = true)
    (a14 : PySem.W.nsIn K mainGlobals "_law_draw" = some (some (.ref f14))) (l14 : K.lookup f14 = some ⟨oc14, od14, .func (PySem.W.fnOf "_law_draw" "_law_draw" (defArgs sDraw) (defBody sDraw) (defScope sDraw) .none kV14 dc14 pm14 an14 cd14 ct14), sl14⟩) (c14 : PySem.W.codeIn K cd14 "_law_draw" = true) (k14 : PySem.W.keepIn K (.ref f14) = true)
    (a15 : PySem.W.nsIn K mainGlobals "_law_pick" = some (some (.ref f15))) (l15 : K.lookup f15 = some ⟨oc15, od15, .func (PySem.W.fnOf "_law_pick" "_law_pick" (defArgs sPick) (defBody sPick) (defScope sPick) .none kV15 dc15 pm15 an15 cd15 ct15), sl15⟩) (c15 : PySem.W.codeIn K cd15 "_law_pick" = true) (k15 : PySem.W.keepIn K (.ref f15) = true)
    (a16 : PySem.W.nsIn K mainGlobals "_law_turns" = some (some (.ref f16))) (l16 : K.lookup f16 = some ⟨oc16, od16, .func (PySem.W.fnOf "_law_turns" "_law_turns" (defArgs sTurns1) (defBody sTurns1) (defScope sTurns1) .none kV16 dc16 pm16 an16 cd16 ct16), sl16⟩) (c16 : PySem.W.codeIn K cd16 "_law_turns" = true) (k16 : PySem.W.keepIn K (.ref f16) = true)
    (a17 : PySem.W.nsIn K mainGlobals "_law_bare" = some (some (.ref f17))) (l17 : K.lookup f17 = some ⟨oc17, od17, .func (PySem.W.fnOf "_law_bare" "_law_bare" (defArgs sBare) (defBody sBare) (defScope sBare) .none kV17 dc17 pm17 an17 cd17 ct17), sl17⟩) (c17 : PySem.W.codeIn K cd17 "_law_bare" = true) (k17 : PySem.W.keepIn K (.ref f17) = true)
    (a18 : PySem.W.nsIn K mainGlobals "_law_all_words" = some (some (.ref f18))) (l18 : K.lookup f18 = some ⟨oc18, od18, .func (PySem.W.fnOf "_law_all_words" "_law_all_words" (defArgs sAll) (defBody sAll) (defScope sAll) .none kV18 dc18 pm18 an18 cd18 ct18), sl18⟩) (c18 : PySem.W.codeIn K cd18 "_law_all_words" = true) (k18 : PySem.W.keepIn K (.ref f18) = true)
    (a19 : PySem.W.nsIn K mainGlobals "_law_apart" = some (some (.ref f19))) (l19 : K.lookup f19 = some ⟨oc19, od19, .func (PySem.W.fnOf "_law_apart" "_law_apart" (defArgs sApart) (defBody sApart) (defScope sApart) .none kV19 dc19 pm19 an19 cd19 ct19), sl19⟩) (c19 : PySem.W.codeIn K cd19 "_law_apart" = true) (k19 : PySem.W.keepIn K (.ref f19) = true)
    (a20 : PySem.W.nsIn K mainGlobals "_law_great_right" = some (some (.ref f20))) (l20 : K.lookup f20 = some ⟨oc20, od20, .func (PySem.W.fnOf "_law_great_right" "_law_great_right" (defArgs sGreat) (defBody sGreat) (defScope sGreat) .none kV20 dc20 pm20 an20 cd20 ct20), sl20⟩) (c20 : PySem.W.codeIn K cd20 "_law_great_right" = true) (k20 : PySem.W.keepIn K (.ref f20) = true)
    (a21 : PySem.W.nsIn K mainGlobals "law" = some (some (.ref f21))) (l21 : K.lookup f21 = some ⟨oc21, od21, .func (PySem.W.fnOf "law" "law" (defArgs sLaw) (defBody sLaw) (defScope sLaw) .none kV21 dc21 pm21 an21 cd21 ct21), sl21⟩) (c21 : PySem.W.codeIn K cd21 "law" = true) (k21 : PySem.W.keepIn K (.ref f21) = true)
    (b1 : PySem.W.nsIn K mainGlobals "len" = some none)
    (b2 : PySem.W.nsIn K mainGlobals "int" = some none)
    (b3 : PySem.W.nsIn K mainGlobals "list" = some none)
    (b4 : PySem.W.nsIn K mainGlobals "range" = some none)
    (b5 : PySem.W.nsIn K mainGlobals "tuple" = some none)
    (b6 : PySem.W.nsIn K mainGlobals "any" = some none)
    (b7 : PySem.W.nsIn K mainGlobals "max" = some none)
    (b8 : PySem.W.nsIn K mainGlobals "min" = some none)
    (b9 : PySem.W.nsIn K mainGlobals "sorted" = some none)
    (b10 : PySem.W.nsIn K mainGlobals "isinstance" = some none)
    (b11 : PySem.W.nsIn K mainGlobals "enumerate" = some none)
    (b12 : PySem.W.nsIn K mainGlobals "sum" = some none)
    (b13 : PySem.W.nsIn K mainGlobals "repr" = some none)
    (b14 : PySem.W.nsIn K mainGlobals "set" = some none)
    : ∃ fd : FuncData, (∀ (s : Shared) (v : Value), BindsTo s fd ⟨[v], []⟩ [("_law_script", v)]) ∧ ∀ base : Heap, K.In base → base.Ns mainGlobals mg → FnG l.prog w K mg base CX0 6 fa fd ["_law_script"] (spLaw2 K) := by
  have e := hfa.symm.trans (PySem.W.mg_of X G a21)
  cases e
  have T : Blt mg := ⟨PySem.W.mg_none_of X G b1, PySem.W.mg_none_of X G b2, PySem.W.mg_none_of X G b3, PySem.W.mg_none_of X G b4, PySem.W.mg_none_of X G b5, PySem.W.mg_none_of X G b6, PySem.W.mg_none_of X G b7, PySem.W.mg_none_of X G b8, PySem.W.mg_none_of X G b9, PySem.W.mg_none_of X G b10, PySem.W.mg_none_of X G b11, PySem.W.mg_none_of X G b12, PySem.W.mg_none_of X G b13, PySem.W.mg_none_of X G b14⟩
  have D1 : DefAt K mg "words_with" sWith ["letters", "length"] f1 _ := ⟨fun_mk (st := sWith) l1 c1 k1, (fun_mk (st := sWith) l1 c1 k1).binds (ps := ["letters", "length"]) fun _ _ _ _ _ _ us hl => match us, hl with | [_, _], _ => rfl, PySem.W.mg_of X G a1⟩
  have D2 : DefAt K mg "word_after" sAfter ["letters", "word"] f2 _ := ⟨fun_mk (st := sAfter) l2 c2 k2, (fun_mk (st := sAfter) l2 c2 k2).binds (ps := ["letters", "word"]) fun _ _ _ _ _ _ us hl => match us, hl with | [_, _], _ => rfl, PySem.W.mg_of X G a2⟩
  have D3 : DefAt K mg "turns" sTurns ["word"] f3 _ := ⟨fun_mk (st := sTurns) l3 c3 k3, (fun_mk (st := sTurns) l3 c3 k3).binds (ps := ["word"]) fun _ _ _ _ _ _ us hl => match us, hl with | [_], _ => rfl, PySem.W.mg_of X G a3⟩
  have D4 : DefAt K mg "least_turn" sLeast ["word"] f4 _ := ⟨fun_mk (st := sLeast) l4 c4 k4, (fun_mk (st := sLeast) l4 c4 k4).binds (ps := ["word"]) fun _ _ _ _ _ _ us hl => match us, hl with | [_], _ => rfl, PySem.W.mg_of X G a4⟩
  have D5 : DefAt K mg "is_repeated" sRep ["word"] f5 _ := ⟨fun_mk (st := sRep) l5 c5 k5, (fun_mk (st := sRep) l5 c5 k5).binds (ps := ["word"]) fun _ _ _ _ _ _ us hl => match us, hl with | [_], _ => rfl, PySem.W.mg_of X G a5⟩
  have D6 : DefAt K mg "is_comma_free" sCF ["words"] f6 _ := ⟨fun_mk (st := sCF) l6 c6 k6, (fun_mk (st := sCF) l6 c6 k6).binds (ps := ["words"]) fun _ _ _ _ _ _ us hl => match us, hl with | [_], _ => rfl, PySem.W.mg_of X G a6⟩
  have D7 : DefAt K mg "comma_free_book" sBook ["letters", "length"] f7 _ := ⟨fun_mk (st := sBook) l7 c7 k7, (fun_mk (st := sBook) l7 c7 k7).binds (ps := ["letters", "length"]) fun _ _ _ _ _ _ us hl => match us, hl with | [_, _], _ => rfl, PySem.W.mg_of X G a7⟩
  have D8 : DefAt K mg "marked_turn" sMark ["letters", "word"] f8 _ := ⟨fun_mk (st := sMark) l8 c8 k8, (fun_mk (st := sMark) l8 c8 k8).binds (ps := ["letters", "word"]) fun _ _ _ _ _ _ us hl => match us, hl with | [_, _], _ => rfl, PySem.W.mg_of X G a8⟩
  have D9 : DefAt K mg "parts_joined" sJoin ["parts", "first"] f9 _ := ⟨fun_mk (st := sJoin) l9 c9 k9, (fun_mk (st := sJoin) l9 c9 k9).binds (ps := ["parts", "first"]) fun _ _ _ _ _ _ us hl => match us, hl with | [_, _], _ => rfl, PySem.W.mg_of X G a9⟩
  have D10 : DefAt K mg "rings_in" sRin ["sums"] f10 _ := ⟨fun_mk (st := sRin) l10 c10 k10, (fun_mk (st := sRin) l10 c10 k10).binds (ps := ["sums"]) fun _ _ _ _ _ _ us hl => match us, hl with | [_], _ => rfl, PySem.W.mg_of X G a10⟩
  have D11 : DefAt K mg "all_letter_rings" sAllR ["many", "length"] f11 _ := ⟨fun_mk (st := sAllR) l11 c11 k11, (fun_mk (st := sAllR) l11 c11 k11).binds (ps := ["many", "length"]) fun _ _ _ _ _ _ us hl => match us, hl with | [_, _], _ => rfl, PySem.W.mg_of X G a11⟩
  have D12 : DefAt K mg "letter_rings" sRings ["many", "length"] f12 _ := ⟨fun_mk (st := sRings) l12 c12 k12, (fun_mk (st := sRings) l12 c12 k12).binds (ps := ["many", "length"]) fun _ _ _ _ _ _ us hl => match us, hl with | [_, _], _ => rfl, PySem.W.mg_of X G a12⟩
  have D13 : DefAt K mg "_law_deck" sDeck ["_law_script"] f13 _ := ⟨fun_mk (st := sDeck) l13 c13 k13, (fun_mk (st := sDeck) l13 c13 k13).binds (ps := ["_law_script"]) fun _ _ _ _ _ _ us hl => match us, hl with | [_], _ => rfl, PySem.W.mg_of X G a13⟩
  have D14 : DefAt K mg "_law_draw" sDraw ["_law_deck_here", "_law_many"] f14 _ := ⟨fun_mk (st := sDraw) l14 c14 k14, (fun_mk (st := sDraw) l14 c14 k14).binds (ps := ["_law_deck_here", "_law_many"]) fun _ _ _ _ _ _ us hl => match us, hl with | [_, _], _ => rfl, PySem.W.mg_of X G a14⟩
  have D15 : DefAt K mg "_law_pick" sPick ["_law_deck_here", "_law_some"] f15 _ := ⟨fun_mk (st := sPick) l15 c15 k15, (fun_mk (st := sPick) l15 c15 k15).binds (ps := ["_law_deck_here", "_law_some"]) fun _ _ _ _ _ _ us hl => match us, hl with | [_, _], _ => rfl, PySem.W.mg_of X G a15⟩
  have D16 : DefAt K mg "_law_turns" sTurns1 ["_law_item"] f16 _ := ⟨fun_mk (st := sTurns1) l16 c16 k16, (fun_mk (st := sTurns1) l16 c16 k16).binds (ps := ["_law_item"]) fun _ _ _ _ _ _ us hl => match us, hl with | [_], _ => rfl, PySem.W.mg_of X G a16⟩
  have D17 : DefAt K mg "_law_bare" sBare ["_law_item"] f17 _ := ⟨fun_mk (st := sBare) l17 c17 k17, (fun_mk (st := sBare) l17 c17 k17).binds (ps := ["_law_item"]) fun _ _ _ _ _ _ us hl => match us, hl with | [_], _ => rfl, PySem.W.mg_of X G a17⟩
  have D18 : DefAt K mg "_law_all_words" sAll ["_law_signs", "_law_size"] f18 _ := ⟨fun_mk (st := sAll) l18 c18 k18, (fun_mk (st := sAll) l18 c18 k18).binds (ps := ["_law_signs", "_law_size"]) fun _ _ _ _ _ _ us hl => match us, hl with | [_, _], _ => rfl, PySem.W.mg_of X G a18⟩
  have D19 : DefAt K mg "_law_apart" sApart ["_law_words"] f19 _ := ⟨fun_mk (st := sApart) l19 c19 k19, (fun_mk (st := sApart) l19 c19 k19).binds (ps := ["_law_words"]) fun _ _ _ _ _ _ us hl => match us, hl with | [_], _ => rfl, PySem.W.mg_of X G a19⟩
  have D20 : DefAt K mg "_law_great_right" sGreat ["_law_signs", "_law_size"] f20 _ := ⟨fun_mk (st := sGreat) l20 c20 k20, (fun_mk (st := sGreat) l20 c20 k20).binds (ps := ["_law_signs", "_law_size"]) fun _ _ _ _ _ _ us hl => match us, hl with | [_, _], _ => rfl, PySem.W.mg_of X G a20⟩
  exact ⟨_, fun s v => .of_eq rfl, fun base _ _ => ok_law (fun_mk (st := sLaw) l21 c21 k21) T D13 D14 D15 D16 D17 D6 D20 D18 D19 D12 (Rg.ok_rings D12.F T D10 D11)
    D7 (ok_book D7.F T D1 (Wd.ok_with D1.F T D2) D5 (Wd.ok_rep D5.F) D4 (Wd.ok_least D4.F T D3) D8 (ok_mark D8.F T D9)) D8 (ok_mark D8.F T D9)⟩
end K49

open PySem PySem.W PyProof.Rows in
set_option maxRecDepth 100000 in
set_option maxHeartbeats 0 in
theorem PySem.Challenge.cw_amidread_k49_whole_comma_free_books_as_g_holds : PySem.Challenge.rw_amidread_k49_whole_comma_free_books_as_g.Holds := by
  w_on; o_law; k_head; (case hw => w_witness2)
  k_fill
  refine Ami.walk_ofG (l := PySem.Challenge.rw_amidread_k49_whole_comma_free_books_as_g) (n := 63) (k := 6) (x := "_law_script") (sp := fun w => Ami.spLaw2 _) rfl (by decide) rfl ⟨rfl, by decide, by decide⟩ (fun w h Y => PySem.W.kIn_of Y) ?F (fun _ _ a ns hl _ hS => ⟨a, ns, rfl, hS, hl, fun _ => rfl⟩)
  case F =>
    intro w mg fa h KX G hmg
    refine' K49.all_mk KX G hmg ?a1 ?l1 ?c1 ?k1 ?a2 ?l2 ?c2 ?k2 ?a3 ?l3 ?c3 ?k3 ?a4 ?l4 ?c4 ?k4 ?a5 ?l5 ?c5 ?k5 ?a6 ?l6 ?c6 ?k6 ?a7 ?l7 ?c7 ?k7 ?a8 ?l8 ?c8 ?k8 ?a9 ?l9 ?c9 ?k9 ?a10 ?l10 ?c10 ?k10 ?a11 ?l11 ?c11 ?k11 ?a12 ?l12 ?c12 ?k12 ?a13 ?l13 ?c13 ?k13 ?a14 ?l14 ?c14 ?k14 ?a15 ?l15 ?c15 ?k15 ?a16 ?l16 ?c16 ?k16 ?a17 ?l17 ?c17 ?k17 ?a18 ?l18 ?c18 ?k18 ?a19 ?l19 ?c19 ?k19 ?a20 ?l20 ?c20 ?k20 ?a21 ?l21 ?c21 ?k21 ?b1 ?b2 ?b3 ?b4 ?b5 ?b6 ?b7 ?b8 ?b9 ?b10 ?b11 ?b12 ?b13 ?b14
    (case a1 => k_is)
    (case l1 => k_is)
    (case c1 => k_is)
    (case k1 => k_is)
    (case a2 => k_is)
    (case l2 => k_is)
    (case c2 => k_is)
    (case k2 => k_is)
    (case a3 => k_is)
    (case l3 => k_is)
    (case c3 => k_is)
    (case k3 => k_is)
    (case a4 => k_is)
    (case l4 => k_is)
    (case c4 => k_is)
    (case k4 => k_is)
    (case a5 => k_is)
    (case l5 => k_is)
    (case c5 => k_is)
    (case k5 => k_is)
    (case a6 => k_is)
    (case l6 => k_is)
    (case c6 => k_is)
    (case k6 => k_is)
    (case a7 => k_is)
    (case l7 => k_is)
    (case c7 => k_is)
    (case k7 => k_is)
    (case a8 => k_is)
    (case l8 => k_is)
    (case c8 => k_is)
    (case k8 => k_is)
    (case a9 => k_is)
    (case l9 => k_is)
    (case c9 => k_is)
    (case k9 => k_is)
    (case a10 => k_is)
    (case l10 => k_is)
    (case c10 => k_is)
    (case k10 => k_is)
    (case a11 => k_is)
    (case l11 => k_is)
    (case c11 => k_is)
    (case k11 => k_is)
    (case a12 => k_is)
    (case l12 => k_is)
    (case c12 => k_is)
    (case k12 => k_is)
    (case a13 => k_is)
    (case l13 => k_is)
    (case c13 => k_is)
    (case k13 => k_is)
    (case a14 => k_is)
    (case l14 => k_is)
    (case c14 => k_is)
    (case k14 => k_is)
    (case a15 => k_is)
    (case l15 => k_is)
    (case c15 => k_is)
    (case k15 => k_is)
    (case a16 => k_is)
    (case l16 => k_is)
    (case c16 => k_is)
    (case k16 => k_is)
    (case a17 => k_is)
    (case l17 => k_is)
    (case c17 => k_is)
    (case k17 => k_is)
    (case a18 => k_is)
    (case l18 => k_is)
    (case c18 => k_is)
    (case k18 => k_is)
    (case a19 => k_is)
    (case l19 => k_is)
    (case c19 => k_is)
    (case k19 => k_is)
    (case a20 => k_is)
    (case l20 => k_is)
    (case c20 => k_is)
    (case k20 => k_is)
    (case a21 => k_is)
    (case l21 => k_is)
    (case c21 => k_is)
    (case k21 => k_is)
    (case b1 => k_is)
    (case b2 => k_is)
    (case b3 => k_is)
    (case b4 => k_is)
    (case b5 => k_is)
    (case b6 => k_is)
    (case b7 => k_is)
    (case b8 => k_is)
    (case b9 => k_is)
    (case b10 => k_is)
    (case b11 => k_is)
    (case b12 => k_is)
    (case b13 => k_is)
    (case b14 => k_is)

