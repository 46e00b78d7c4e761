import PyProof.Rows.All
import Wide.All
import OpenK.AllK
import Wide.FinOn
import HandS.ForMost
import HandS.IsInst
import HandS.Walk
import HandS.Conv
import HandS.Style
import HandS.Flow
import PyProof.ListStr
import PyProof.ReprRoads
import HandS.Set
import HandS.SetTxt0
import PyProof.Rows.SetFrom
import PyProof.Rows.SortStr
import HandS.SetKeys
import PyProof.ReprLen
import HandS.Codes
import PySem.Challenge.RW_amidread_k01_letters_and_words_of_any_va
import HandS.TupSets
set_option Elab.async false
set_option linter.all false
set_option maxRecDepth 100000
set_option maxHeartbeats 2000000
namespace Ami
open PySem PySem.Spec PyProof.Rows L2

/-! ### texts -/
/-- a text of one sign -/
def one (c : Nat) : Str := ⟨#[c]⟩
/-- the signs of a text, each as a text -/
def letts (z : Str) : List Str := z.cps.toList.map one
theorem letts_length (z : Str) : (letts z).length = z.length := by
  unfold letts
  rw [List.length_map, Array.length_toList]
  rfl

section
variable {X : Cx}
/-- list(z) -/
theorem cr_listStr (hc : X.calm = true) : CallR X (.type "list") (fun vs H Q => ∃ z : Str, vs = [.str z] ∧ z.length ≤ sizeLine ∧ ∀ p, H p = none → Q (.ref p) (upd H p (.lst ((letts z).map V.str)))) := by
  intro pins s σ H vs us Q I r h
  obtain ⟨z, rfl, hz, q⟩ := h
  obtain ⟨u, rfl, t, rfl⟩ := vals1 r
  refine call_list_str (I.ok.hd hc) z t (fun h' tk acc c' k hS hacc => ?_) hz
  have hl : acc.size = z.cps.size := hacc.1
  have hv : Vals ((letts z).map V.str) acc.toList := by
    refine vals_of_at ?_ fun j x u hx hu => ?_
    · rw [List.length_map, letts_length, Array.length_toList, hl]; rfl
    · have hu' : acc[j]? = some u := by rw [← Array.getElem?_toList]; exact hu
      have hj : j < acc.size := (Array.getElem?_eq_some_iff.mp hu').1
      obtain ⟨c, t', e1, e2⟩ := hacc.2 j u hu'
      subst e2
      have e3 : (letts z)[j]? = some (one c) := by
        unfold letts
        rw [List.getElem?_map, Array.getElem?_toList, e1]; rfl
      rw [List.getElem?_map, e3] at hx
      cases hx
      exact ⟨t', rfl⟩
  refine ⟨.ref s.heap.objs.size, _, I.laid (t' := tk) k (Nat.le_refl _) (show ObjOk X.prog X.w _ h' _ (.lst ((letts z).map V.str)) from ⟨?_, acc.toList, c', hv, by simpa using hS⟩), rfl, q _ (I.hok.fresh (Nat.le_refl _))⟩
  rw [List.length_map, letts_length]; exact hz

/-- z * n, as a text -/
def repS (z : Str) (n : Nat) : Str := ⟨(List.replicate n z.cps.toList).flatten.toArray⟩
theorem flat_rep (l : List Nat) : ∀ (n : Nat) (acc : List Nat), (List.replicate n l.toArray).foldl (· ++ ·) acc.toArray = (acc ++ (List.replicate n l).flatten).toArray := by
  intro n
  induction n with
  | zero => intro acc; simp
  | succ n ih =>
    intro acc
    rw [List.replicate_succ, List.foldl_cons, List.append_toArray, ih, List.replicate_succ, List.flatten_cons, List.append_assoc]
theorem repS_length (z : Str) (n : Nat) : (repS z n).length = n * z.length := by
  show ((List.replicate n z.cps.toList).flatten.toArray).size = n * z.cps.size
  rw [List.size_toArray, List.length_flatten, List.map_replicate, List.sum_replicate_nat, Array.length_toList]
theorem repS_mem {z : Str} {n c : Nat} (h : c ∈ (repS z n).cps.toList) : c ∈ z.cps.toList := by
  have h' : c ∈ (List.replicate n z.cps.toList).flatten := h
  obtain ⟨l, h1, h2⟩ := List.mem_flatten.mp h'
  rw [(List.mem_replicate.mp h1).2] at h2
  exact h2
/-- text * int -/
theorem op_repS : OpR X (binaryOp .Mult) (fun x y H Q => ∃ (z : Str) (n : Nat), x = .str z ∧ y = .int n ∧ n * z.length ≤ sizeLine ∧ n < 2 ^ 62 ∧ Q (.str (repS z n)) H) := by
  intro pins s σ H x y v u Q I rx ry h
  obtain ⟨z, n, rfl, rfl, hz, hn, q⟩ := h
  obtain ⟨t, rfl⟩ := rx
  obtain ⟨t', rfl⟩ := ry
  have hline := sizeLine_eq
  have e0 : (List.replicate n z.cps).foldl (· ++ ·) #[] = (repS z n).cps := by
    have := flat_rep z.cps.toList n []
    simpa [repS] using this
  have fin : ∀ t' k, EP X pins σ Q (.str (repS z n) t') { s with toks := k } := fun t' k => ⟨.str (repS z n), H, I.tok _, ⟨t', rfl⟩, q⟩
  refine PySem.P.mul_str ?_ ?_ ?_ ?_
  · have h1 : ¬ ((n : Int) < -(2 ^ 63 : Int)) := by omega
    have h2 : ¬ ((n : Int) ≥ 2 ^ 63) := by omega
    rw [decide_eq_false h1, decide_eq_false h2]; rfl
  · intro h1 _
    have hn0 : 0 < n := by omega
    have hz' : z.length ≤ n * z.length := Nat.le_mul_of_pos_left _ hn0
    have hq : (2 ^ 63 - 1 : Int) / n ≥ z.length := by
      refine Int.le_ediv_of_mul_le (by omega) ?_
      have e : (z.length : Int) * (n : Int) = ((n * z.length : Nat) : Int) := by
        rw [Nat.mul_comm n z.length]; exact (Int.natCast_mul _ _).symm
      rw [e]
      omega
    omega
  · intro h1 _
    show decide (z.length * n > sizeLine) = false
    rw [Nat.mul_comm]
    exact decide_eq_false (by omega)
  · by_cases c1 : (n : Int) < 1
    · rw [if_pos c1]
      have hn0 : n = 0 := by omega
      subst hn0
      exact ⟨Nat.zero_le _, by have e : Str.empty = repS z 0 := by simp [repS, Str.empty]
                               rw [e]; exact fin _ _⟩
    · rw [if_neg c1]
      by_cases c2 : ((n : Int) == 1 || z.length == 0) = true
      · rw [if_pos c2]
        have e : z = repS z n := by
          rcases (Bool.or_eq_true _ _).mp c2 with k | k
          · have : n = 1 := by have := of_decide_eq_true k; omega
            subst this
            simp [repS]
          · have k' : z.length = 0 := by simpa using k
            have z0 : z.cps = #[] := Array.eq_empty_of_size_eq_zero k'
            obtain ⟨a⟩ := z
            simp only at z0
            subst z0
            simp [repS]
        show EP X pins σ Q (.str z t) s
        exact ⟨.str z, H, I, ⟨t, rfl⟩, by rw [e]; exact q⟩
      · rw [if_neg c2]
        refine ⟨?_, ?_⟩
        · show ((List.replicate ((n : Int)).toNat z.cps).foldl (· ++ ·) #[]).size ≤ sizeLine
          rw [Int.toNat_natCast, e0]
          have := repS_length z n
          unfold Str.length at this
          rw [this]
          exact hz
        · have e1 : (⟨(List.replicate ((n : Int)).toNat z.cps).foldl (· ++ ·) #[]⟩ : Str) = repS z n := by
            rw [Int.toNat_natCast, e0]
          rw [e1]
          exact fin _ _

/-- z[::-1], as a text -/
def revS (z : Str) : Str := ⟨z.cps.toList.reverse.toArray⟩
theorem revS_length (z : Str) : (revS z).length = z.length := by
  show z.cps.toList.reverse.toArray.size = z.cps.size
  rw [List.size_toArray, List.length_reverse, Array.length_toList]
def tRevS (te : TE) : TE := fun σ H Q => te σ H fun x H1 => ∃ z : Str, x = .str z ∧ z.length ≤ sizeLine ∧ Q (.str (revS z)) H1
theorem sliceMade_rev (z : Str) (t uk : Tok) : sliceMade z t none none (some (-1, uk)) = .str (revS z) := by
  unfold sliceMade
  rw [if_neg (by simp)]
  have e : slicePicked z none none (some (-1, uk)) = (List.range z.length).map fun k => z.length - 1 - k := by
    show sliceRange ((z.length : Int) - 1) (-1) (-1) = _
    exact PySem.W.krv_sliceRange z.length
  rw [e]
  have e2 := PySem.W.krv_range z.length
  rw [e2, List.filterMap_reverse]
  have e3 := PySem.W.krv_all z.cps
  unfold Str.length
  rw [e3]
  rfl
theorem pe_revS {e : Expr} {te : TE} {k : Nat} {p1 p2 p3 pos : Pos} (he : PE X e te) : PE X (.Subscript e (.Slice none none (some (.UnaryOp .USub (.Constant (.int 1) k p1) p2)) p3) pos) (tRevS te) := by
  refine ⟨fun pins s σ H Q I h => ?_⟩
  refine Subscript_ (thn (he.run pins s σ H _ I h) fun v s1 ⟨x, H1, I1, r1, z, ex, hz, q⟩ => ?_)
  subst ex
  obtain ⟨t, rfl⟩ := r1
  have hst : PO X (some (.UnaryOp .USub (.Constant (.int 1) k p1) p2)) (tPart (tUn (rU fun i => .int (-i)) (tC (.int 1)))) := po_some (pe_un un_neg pe_int)
  refine wpAny_Slice (thn (po_none.run pins s1 σ H1 (fun o H2 => o = none ∧ H2 = H1) I1 ⟨rfl, rfl⟩) fun vl s2 ⟨l, H2, I2, pl, el, e2⟩ => ?_)
  subst el e2
  refine thn (po_none.run pins s2 σ H2 (fun o H3 => o = none ∧ H3 = H2) I2 ⟨rfl, rfl⟩) fun vu s3 ⟨u, H3, I3, pu, eu, e3⟩ => ?_
  subst eu e3
  refine thn (hst.run pins s3 σ H3 (fun o H4 => o = some (-1) ∧ H4 = H3) I3 ⟨1, rfl, -1, rfl, rfl, rfl⟩) fun vs s4 ⟨o, H4, I4, ps, eo, e4⟩ => ?_
  subst eo e4
  have I5 : Inv X pins σ H4 { s4 with heap := s4.heap.push { cls := .type "slice", data := .fields #[vl, vu, vs] } } := I4.kept (t' := s4.toks) fun b ob q => Heap.get?_push_of_some _ q
  obtain ⟨l0, e1, e2⟩ := IsPart.raw pl
  obtain ⟨u0, e3, e4⟩ := IsPart.raw pu
  obtain ⟨k0, e5, e6⟩ := IsPart.raw ps
  have l00 : l0 = none := by cases l0 with | none => rfl | some p => cases e2
  have u00 : u0 = none := by cases u0 with | none => rfl | some p => cases e4
  obtain ⟨uk, k00⟩ : ∃ uk, k0 = some (-1, uk) := by
    cases k0 with
    | none => cases e6
    | some p =>
      obtain ⟨i, uk⟩ := p
      have : i = -1 := Option.some.inj e6
      subst this
      exact ⟨uk, rfl⟩
  subst l00 u00 k00 e1 e3 e5
  show wpAny (model X.prog X.w) X.A (subscriptTail e (.Slice none none (some (.UnaryOp .USub (.Constant (.int 1) k p1) p2)) p3) (.str z t) (.ref s4.heap.objs.size)) (EP X pins σ Q) X.xe { s4 with heap := s4.heap.push { cls := .type "slice", data := .fields #[partValue none, partValue none, partValue (some (-1, uk))] } }
  refine tail_any (ops := [.ref s4.heap.objs.size, .str z t]) (typeIs_str _ _ _) (PySem.F.slot_str_getitem.lookup) ?_ (by with_unfolding_all rfl)
  refine wpAny_getItem_str_slice (l := none) (u := none) (st := some (-1, uk)) ⟨_, Heap.get?_push_size _ rfl, rfl, rfl⟩ rfl ?_
  rw [sliceMade_rev]
  exact ⟨by rw [revS_length]; exact hz, .str (revS z), _, I5.tok _, ⟨_, rfl⟩, q⟩
end

/-! ### what repr shows -/
mutual
inductive Dq (K : PySem.W.Frag) (H : Hp) : V → PyData → Prop
  | non : Dq K H .non .none
  | bl (b : Bool) : Dq K H (.bl b) (.bool b)
  | int (i : Int) : Dq K H (.int i) (.int i)
  | str (x : Str) : Dq K H (.str x) (.str x)
  | lst {a : Addr} {xs : List V} {ds : List PyData} : SqL K H a xs → DqAll K H xs ds → Dq K H (.ref a) (.list ds)
  | tup {a : Addr} {xs : List V} {ds : List PyData} : SqT K H a xs → DqAll K H xs ds → Dq K H (.ref a) (.tuple ds)
  | dct {a : Addr} {kvs : List (Key × V)} {ds : List (PyData × PyData)} : H a = some (.dK kvs) → DqAll K H (kvs.map fun p => kV p.1) (ds.map (·.1)) → DqAll K H (kvs.map (·.2)) (ds.map (·.2)) → Dq K H (.ref a) (.dict ds)
inductive DqAll (K : PySem.W.Frag) (H : Hp) : List V → List PyData → Prop
  | nil : DqAll K H [] []
  | cons {v : V} {vs : List V} {d : PyData} {ds : List PyData} : Dq K H v d → DqAll K H vs ds → DqAll K H (v :: vs) (d :: ds)
end
mutual
theorem Dq.same {K : PySem.W.Frag} {H H' : Hp} (k : ∀ a, (∀ xs, SqL K H a xs → SqL K H' a xs) ∧ (∀ xs, SqT K H a xs → SqT K H' a xs) ∧ ∀ kvs, H a = some (.dK kvs) → H' a = some (.dK kvs)) : ∀ {v : V} {d : PyData}, Dq K H v d → Dq K H' v d
  | _, _, .non => .non
  | _, _, .bl b => .bl b
  | _, _, .int i => .int i
  | _, _, .str x => .str x
  | _, _, .lst h t => .lst ((k _).1 _ h) (DqAll.same k t)
  | _, _, .tup h t => .tup ((k _).2.1 _ h) (DqAll.same k t)
  | _, _, .dct h t u => .dct ((k _).2.2 _ h) (DqAll.same k t) (DqAll.same k u)
theorem DqAll.same {K : PySem.W.Frag} {H H' : Hp} (k : ∀ a, (∀ xs, SqL K H a xs → SqL K H' a xs) ∧ (∀ xs, SqT K H a xs → SqT K H' a xs) ∧ ∀ kvs, H a = some (.dK kvs) → H' a = some (.dK kvs)) : ∀ {vs : List V} {ds : List PyData}, DqAll K H vs ds → DqAll K H' vs ds
  | _, _, .nil => .nil
  | _, _, .cons h t => .cons (Dq.same k h) (DqAll.same k t)
end
theorem pairs_vals {P : Program} {w : World} : ∀ {es : List DictEntry} {vs : List (Key × Value)} {kvs : List (Key × V)}, Pairs (mixKind P w) es vs → KV kvs vs →
    Vals (kvs.map fun p => kV p.1) (es.map (·.key)) ∧ Vals (kvs.map (·.2)) (es.map (·.val))
  | _, _, _, .nil, .nil => ⟨.nil, .nil⟩
  | _, _, _, .cons h1 h2 h3, .cons q1 q2 => by
    obtain ⟨t1, t2⟩ := pairs_vals h3 q2
    refine ⟨.cons ?_ t1, .cons ?_ t2⟩
    · dsimp only; rw [q1.1]; exact keyIs_rel h1
    · dsimp only; rw [h2]; exact q1.2
section
variable {X : Cx} {pins : List (Addr × Obj)} {σ : L2.St} {H : Hp} {s : Shared}
mutual
theorem Dq.reads (I : Inv X pins σ H s) : ∀ {v : V} {d : PyData} (u : Value), Dq X.K H v d → RelV v u → ∃ as, Reads s.heap u d as
  | _, _, _, .non, r => by cases r; exact ⟨_, Reads.none⟩
  | _, _, _, .bl b, r => by cases r; exact ⟨_, Reads.bool b⟩
  | _, _, _, .int i, r => by obtain ⟨t, rfl⟩ := r; exact ⟨_, Reads.int i t⟩
  | _, _, _, .str x, r => by obtain ⟨t, rfl⟩ := r; exact ⟨_, Reads.str x t⟩
  | _, _, _, .lst hs ha, r => by
    cases r
    obtain ⟨its, rv, ⟨o, n, ho, hc, _, hd⟩, _⟩ := I.list hs
    obtain ⟨as, hr⟩ := DqAll.reads I its ha rv
    exact ⟨_, Reads.list ho hc hd hr⟩
  | _, _, _, .tup hs ha, r => by
    cases r
    obtain ⟨its, rv, ⟨o, ho, hc, n, hd⟩, _⟩ := I.tuple hs
    obtain ⟨as, hr⟩ := DqAll.reads I its ha rv
    exact ⟨_, Reads.tuple ho hc hd hr⟩
  | _, _, _, @Dq.dct _ _ a kvs ds ha h1 h2, r => by
    cases r
    obtain ⟨_, _, vs, kv, o, es, ep, ho, hx, hd, _, pr, _⟩ := dk_of I.hok ha
    obtain ⟨p1, p2⟩ := pairs_vals pr kv
    obtain ⟨as, q1⟩ := DqAll.reads I _ h1 p1
    obtain ⟨bs, q2⟩ := DqAll.reads I _ h2 p2
    exact ⟨_, Reads.dict ho hx.1 hd q1 q2⟩
theorem DqAll.reads (I : Inv X pins σ H s) : ∀ {vs : List V} {ds : List PyData} (us : List Value), DqAll X.K H vs ds → Vals vs us → ∃ as, ReadsAll s.heap us ds as
  | _, _, _, .nil, r => by cases r; exact ⟨_, ReadsAll.nil⟩
  | _, _, _, .cons h1 h2, r => by
    cases r with
    | cons r1 r2 =>
      obtain ⟨as, q1⟩ := Dq.reads I _ h1 r1
      obtain ⟨bs, q2⟩ := DqAll.reads I _ h2 r2
      exact ⟨_, ReadsAll.cons q1 q2⟩
end

/-- what has no object of its own -/
def flatD : PyData → Bool
  | .none | .bool _ | .int _ | .str _ => true
  | _ => false
theorem DqAll.flat (I : Inv X pins σ H s) : ∀ {vs : List V} {ds : List PyData} (us : List Value), DqAll X.K H vs ds → ds.all flatD = true → Vals vs us → ReadsAll s.heap us ds []
  | _, _, _, .nil, _, r => by cases r; exact ReadsAll.nil
  | _, _, _, .cons h1 h2, f, r => by
    cases r with
    | cons r1 r2 =>
      rw [List.all_cons, Bool.and_eq_true] at f
      have q2 := DqAll.flat I _ h2 f.2 r2
      cases h1 with
      | non => cases r1; exact ReadsAll.cons Reads.none q2
      | bl b => cases r1; exact ReadsAll.cons (Reads.bool b) q2
      | int i => obtain ⟨t, rfl⟩ := r1; exact ReadsAll.cons (Reads.int i t) q2
      | str x => obtain ⟨t, rfl⟩ := r1; exact ReadsAll.cons (Reads.str x t) q2
      | _ => cases f.1
/-- no dict within, or itself a dict of what has no object of its own -/
def dictFlat : PyData → Bool
  | .dict kvs => (kvs.map (·.1)).all flatD && (kvs.map (·.2)).all flatD
  | d => !d.hasDict
theorem Dq.readsF (I : Inv X pins σ H s) {v : V} {d : PyData} (u : Value) (h : Dq X.K H v d) (r : RelV v u) (f : dictFlat d = true) : ∃ as, Reads s.heap u d as ∧ (d.hasDict = true → sysModules ∉ as) := by
  cases h with
  | @dct a kvs ds ha h1 h2 =>
    cases r
    obtain ⟨_, hsy, vs, kv, o, es, ep, ho, hx, hd, _, pr, _⟩ := dk_of I.hok ha
    obtain ⟨p1, p2⟩ := pairs_vals pr kv
    have f' : ((ds.map (·.1)).all flatD && (ds.map (·.2)).all flatD) = true := f
    rw [Bool.and_eq_true] at f'
    refine ⟨_, Reads.dict ho hx.1 hd (DqAll.flat I _ h1 f'.1 p1) (DqAll.flat I _ h2 f'.2 p2), fun _ m => ?_⟩
    have m' : sysModules = a := by simpa using m
    rw [m'] at hsy
    simp at hsy
  | non => exact (Dq.reads I u .non r).imp fun as q => ⟨q, fun z => by cases z⟩
  | bl b => exact (Dq.reads I u (.bl b) r).imp fun as q => ⟨q, fun z => by cases z⟩
  | int i => exact (Dq.reads I u (.int i) r).imp fun as q => ⟨q, fun z => by cases z⟩
  | str x => exact (Dq.reads I u (.str x) r).imp fun as q => ⟨q, fun z => by cases z⟩
  | lst hs ha =>
    have f' : (!(PyData.list _).hasDict) = true := f
    exact (Dq.reads I u (.lst hs ha) r).imp fun as q => ⟨q, fun z => by rw [z] at f'; cases f'⟩
  | tup hs ha =>
    have f' : (!(PyData.tuple _).hasDict) = true := f
    exact (Dq.reads I u (.tup hs ha) r).imp fun as q => ⟨q, fun z => by rw [z] at f'; cases f'⟩
end
section
variable {X : Cx}
/-- repr(x) -/
def rRepr (K : PySem.W.Frag) : List V → Hp → VK → Prop := fun xs H Q => ∃ (x : V) (d : PyData), xs = [x] ∧ Dq K H x d ∧ dictFlat d = true ∧ d.showable = true ∧ d.shown.length ≤ sizeLine ∧ d.depth ≤ 50 ∧ Q (.str d.shown) H
theorem cr_repr (hg : X.A.guards = some []) (hu : X.A.units + 64 < cLine) : CallR X (.builtin "repr") (rRepr X.K) := by
  intro pins s σ H xs us Q I r h
  obtain ⟨x, d, rfl, hd, hf, hs, hl, hdep, q⟩ := h
  obtain ⟨u, rfl, rx⟩ := vals1 r
  obtain ⟨as, hr, hsm⟩ := Dq.readsF I u hd rx hf
  have hfin : ∀ (h' : Heap) (t : Tok) (tk : Nat), (∀ b o, s.heap.get? b = some o → h'.get? b = some o) → EP X pins σ Q (.str d.shown t) { s with heap := h', toks := tk } :=
    fun h' t tk k => ⟨.str d.shown, H, I.kept (t' := tk) k, ⟨t, rfl⟩, q⟩
  have hsame : EP X pins σ Q (.str d.shown s.toks) { s with toks := s.toks + 1 } := hfin s.heap s.toks (s.toks + 1) fun _ _ e => e
  cases hd with
  | non => cases rx; exact PySem.P.repr_of_none hsame
  | bl b => cases rx; exact PySem.P.repr_of_bool hsame
  | int i =>
    obtain ⟨t, rfl⟩ := rx
    exact PySem.P.repr_of_int (of_decide_eq_true hs) hsame
  | str y =>
    obtain ⟨t, rfl⟩ := rx
    exact PySem.P.repr_of_str hsame hl
  | lst => cases rx; exact repr_of_reads' hr hs hsm hg (by omega) (fun _ _ e => e) hfin hl
  | tup => cases rx; exact repr_of_reads' hr hs hsm hg (by omega) (fun _ _ e => e) hfin hl
  | dct => cases rx; exact repr_of_reads' hr hs hsm hg (by omega) (fun _ _ e => e) hfin hl
end
end Ami

set_option Elab.async false
set_option linter.all false
set_option maxRecDepth 100000
set_option maxHeartbeats 2000000
namespace Ami
open PySem PySem.Spec PyProof.Rows L2

/-- the key that a member of a set stands for -/
def kOf : Value → Key
  | .int i _ => .inl i
  | .str x _ => .inr x
  | _ => .inl 0
theorem kOf_is {k : Key} {v : Value} (h : keyIs k v = true) : kOf v = k := by
  rcases keyIs_shape h with ⟨i, t, rfl, rfl⟩ | ⟨x, t, rfl, rfl⟩ <;> rfl
def Mem (w : World) (e : Int × Value) : Prop := keyIs (kOf e.2) e.2 = true ∧ e.1 = keyH w (kOf e.2)
theorem scan_of {k : Key} {v : Value} (h : keyIs k v = true) : v.scannable = true := by
  rcases keyIs_shape h with ⟨i, t, rfl, rfl⟩ | ⟨x, t, rfl, rfl⟩ <;> rfl
abbrev keysIn (es : List (Int × Value)) : List Key := es.map fun e => kOf e.2

/-- at a stands a set; its members are the keys of l, each once there -/
def SetW (w : World) (h : Heap) (a : Addr) (l : List Key) : Prop :=
  ∃ o es ep t, h.get? a = some o ∧ o.ExactSet ∧ o.data = .set es ep t ∧ (∀ e ∈ es.toList, Mem w e) ∧ (keysIn es.toList).Nodup ∧ l.Perm (keysIn es.toList) ∧
    es.size < scanBound ∧ t.fits es.size = true ∧ Ris t.place.toList ∧ (w.params.followText "set-order" = true ∨ t.led = true)

section
variable {P : Program} {w : World} {h h' : Heap} {a : Addr} {l l' : List Key}
theorem SetW.at (R : SetW w h a l) (k : ∀ o, h.get? a = some o → h'.get? a = some o) : SetW w h' a l := by
  obtain ⟨o, es, ep, t, ho, r⟩ := R
  exact ⟨o, es, ep, t, k o ho, r⟩
theorem SetW.congr (R : SetW w h a l) (e : l'.Perm l) : SetW w h a l' := by
  obtain ⟨o, es, ep, t, ho, x, d, g, nd, m, r⟩ := R
  exact ⟨o, es, ep, t, ho, x, d, g, nd, e.trans m, r⟩
theorem SetW.nodup (R : SetW w h a l) : l.Nodup := by
  obtain ⟨o, es, ep, t, ho, x, d, g, nd, m, r⟩ := R
  exact m.nodup_iff.mpr nd
theorem elems_of {es : List (Int × Value)} (g : ∀ e ∈ es, Mem w e) : ElemsOf (mixKind P w) es := fun e he => ⟨⟨_, (g e he).1, (g e he).2⟩, scan_of (g e he).1⟩
theorem find_iff {es : List (Int × Value)} (g : ∀ e ∈ es, Mem w e) (k : Key) : k ∈ keysIn es ↔ ∃ e ∈ es, (mixKind P w).is k e.2 = true := by
  constructor
  · intro m
    obtain ⟨e, he, q⟩ := List.mem_map.mp m
    exact ⟨e, he, by rw [← q]; exact (g e he).1⟩
  · rintro ⟨e, he, q⟩
    exact List.mem_map.mpr ⟨e, he, kOf_is q⟩
theorem SetW.setOf (R : SetW w h a l) (S : Key → Bool) (hS : ∀ k, S k = true ↔ k ∈ l) : ∃ n, h.SetOf (mixKind P w) a S n := by
  obtain ⟨o, es, ep, t, ho, x, d, g, nd, m, b, f, r⟩ := R
  exact ⟨_, o, es, ep, t, ho, x, d, elems_of g, fun k => by rw [hS k, m.mem_iff]; exact find_iff g k, b, f, rfl⟩
theorem setW_fresh (w : World) (led : Bool) (hl : w.params.followText "set-order" = true ∨ led = true) :
    SetW w (h.push { cls := .type "set", dict := none, data := .set #[] 0 (.fresh 0 0 led) }) h.objs.size [] :=
  ⟨_, #[], 0, _, Heap.get?_push_size _ rfl, ⟨rfl, rfl, rfl⟩, rfl, (fun e he => by simp at he), List.nodup_nil, List.Perm.nil, (by decide), (by rfl), List.Pairwise.nil, hl⟩
end

section
variable {P : Program} {w : World} {A : Around} {E : Value → Shared → Prop} {s : Shared} {a : Addr} {l : List Key}

/-- the last part of an add: the entries are stored, and laid anew where the table is too full -/
theorem tail_w {g : Bool → Sem Unit} (hg : ∀ (b : Bool) (s₁ : Shared) (Q' : Unit → Shared → Prop), Q' () s₁ → wpAny (model P w) A (g b) Q' E s₁)
    {o : Obj} {es : Array (Int × Value)} {ep : Nat} {t : SetTable} (ho : s.heap.get? a = some o) (hx : o.ExactSet) (hd : o.data = .set es ep t)
    {es1 : Array (Int × Value)} {t1 : SetTable} {l1 : List Key} (g1 : ∀ e ∈ es1.toList, Mem w e) (nd1 : (keysIn es1.toList).Nodup) (m1 : l1.Perm (keysIn es1.toList))
    (hb : es1.size < scanBound) (hf : t1.fits es1.size = true) (hr : Ris t1.place.toList) (hl : w.params.followText "set-order" = true ∨ t1.led = true) {dummy : Bool} {R : Option Bool → Shared → Prop}
    (hR : ∀ h', Heap.SameBut a s.heap h' → SetW w h' a l1 → R (some true) { s with heap := h' }) :
    wpAny (model P w) A (do
        storeSet a es1 t1
        if (!dummy && t1.tooFull) = true then do
            g (relayAll t1 es1 (SetTable.grown es1.size)).2.2
            storeSet a (relayAll t1 es1 (SetTable.grown es1.size)).1 (relayAll t1 es1 (SetTable.grown es1.size)).2.1
            pure (some true)
          else pure (some true)) R E s := by
  have same1 := Heap.SameBut.update s.heap a (Obj.putSet es1 t1)
  have at1 := store_at (es' := es1) (t' := t1) ho hd
  refine wpAny_bind (wpAny_storeSet_of ho hd ?_ (fits_of_scanBound hb))
  by_cases c : (!dummy && t1.tooFull) = true
  · rw [if_pos c]
    obtain ⟨es2, t2, gave, eZ⟩ : ∃ es2 t2 gave, relayAll t1 es1 (SetTable.grown es1.size) = (es2, t2, gave) := ⟨_, _, _, rfl⟩
    have pm := relayAll_perm t1 es1 (SetTable.grown es1.size)
    have hf2 := relayAll_fits t1 es1 (SetTable.grown es1.size)
    have hr2 := relayAll_ris t1 es1 (SetTable.grown es1.size)
    have hl2 := relayAll_led t1 es1 (SetTable.grown es1.size)
    rw [eZ] at pm hf2 hr2 hl2 ⊢
    have hsz : es2.size = es1.size := by rw [← Array.length_toList, pm.length_eq, Array.length_toList]
    have pk : (keysIn es2.toList).Perm (keysIn es1.toList) := pm.map _
    refine wpAny_bind (hg _ _ _ ?_)
    refine wpAny_bind (wpAny_storeSet_of at1 rfl ?_ (fits_of_scanBound (by rw [hsz]; exact hb)))
    refine wpAny_pure (hR _ (same1.trans (Heap.SameBut.update _ a _)) ⟨_, es2, _, t2, store_at (es' := es2) (t' := t2) at1 rfl, hx, rfl, fun e he => g1 e (pm.mem_iff.mp he), pk.nodup_iff.mpr nd1,
      m1.trans pk.symm, by rw [hsz]; exact hb, hf2, hr2, hl.imp id fun z => hl2.trans z⟩)
  · rw [if_neg c]
    exact wpAny_pure (hR _ same1 ⟨_, es1, _, t1, at1, hx, rfl, g1, nd1, m1, hb, hf, hr, hl⟩)

/-- a key is added -/
theorem add_w {k : Key} {v : Value} {Q : Bool → Shared → Prop} (R : SetW w s.heap a l) (hk : keyIs k v = true) (room : l.length + 1 < scanBound)
    (hQ : ∀ (b : Bool) (h' : Heap) (l' : List Key), Heap.SameBut a s.heap h' → SetW w h' a l' → (k ∈ l → l' = l) → (k ∉ l → l' = k :: l) → Q b { s with heap := h' }) :
    wpAny (model P w) A (setAddHashed a v (keyH w k)) Q E s := by
  obtain ⟨o, es, ep, t, ho, hx, hd, g, ndE, m, hb, hf, hr, hl⟩ := R
  have el : ElemsOf (mixKind P w) es.toList := elems_of g
  have hsc := scan_of hk
  have hsize : es.size = l.length := by
    have := m.symm.length_eq
    rw [List.length_map, Array.length_toList] at this
    exact this
  unfold setAddHashed setAddHashedIn
  refine wpAny_holding (wpAny_bind (wpAny_setState_of ho hd hf ?_))
  dsimp only
  rw [byScan_of hsc hb el]
  simp only [↓reduceIte]
  unfold setAddByScan
  refine wpAny_bind ?_
  refine wpAny_bind (wpAny_rule ?_)
  refine wpAny_bind (wpAny_setScan_of (knd := mixKind P w) (k := k) hk ho hd hf el ?_)
  cases hfi : List.findIdx? (fun e => (mixKind P w).is k e.2) es.toList with
  | some j =>
    dsimp only
    obtain ⟨hj, pj, _⟩ := List.findIdx?_eq_some_iff_getElem.mp hfi
    have hkl : k ∈ l := m.mem_iff.mpr ((find_iff (P := P) g k).mpr ⟨_, List.getElem_mem hj, pj⟩)
    refine wpAny_pure (wpAny_pure ?_)
    exact hQ _ s.heap l (Heap.SameBut.refl a s.heap) ⟨o, es, ep, t, ho, hx, hd, g, ndE, m, hb, hf, hr, hl⟩ (fun _ => rfl) fun z => absurd hkl z
  | none =>
    dsimp only
    have hnk : k ∉ keysIn es.toList := fun z => by
      obtain ⟨e, he, q⟩ := (find_iff (P := P) g k).mp z
      have := List.findIdx?_eq_none_iff.mp hfi e he
      rw [q] at this
      cases this
    have hkl : k ∉ l := fun z => hnk (m.mem_iff.mp z)
    have gave : ∀ (b : Bool) {s₁ : Shared} {Q' : Unit → Shared → Prop}, Q' () s₁ → wpAny (model P w) A (match b with | true => rule "set.scan.the-table-gave-way" | false => pure ()) Q' E s₁ :=
      fun b s₁ Q' q => by cases b with | true => exact wpAny_rule q | false => exact wpAny_pure q
    obtain ⟨es1, t1, dummy, gv, eZ⟩ : ∃ es1 t1 dummy gv, layNew t es (keyH w k) v = (es1, t1, dummy, gv) := ⟨_, _, _, _, rfl⟩
    have pm := layNew_perm t es (keyH w k) v
    have hf1 := layNew_fits t es (keyH w k) v
    have hr1 := layNew_ris t es (keyH w k) v hr
    have hl1 := layNew_led t es (keyH w k) v
    have eZ' : layNew t es ((mixKind P w).hash k) v = (es1, t1, dummy, gv) := eZ
    rw [eZ] at pm hf1 hr1 hl1
    rw [eZ]
    dsimp only at pm hf1 hr1 hl1 ⊢
    rw [Array.toList_push] at pm
    have pc : es1.toList.Perm ((keyH w k, v) :: es.toList) := pm.trans (List.perm_append_singleton _ _)
    have pk : (keysIn es1.toList).Perm (k :: keysIn es.toList) := by
      have q := pc.map fun e : Int × Value => kOf e.2
      rw [List.map_cons, kOf_is hk] at q
      exact q
    have g1 : ∀ e ∈ es1.toList, Mem w e := fun e he => by
      rcases List.mem_cons.mp (pc.mem_iff.mp he) with z | z
      · rw [z]
        have e1 := kOf_is hk
        exact ⟨by show keyIs (kOf v) v = true; rw [e1]; exact hk, by show keyH w k = keyH w (kOf v); rw [e1]⟩
      · exact g e z
    have nd1 : (keysIn es1.toList).Nodup := pk.nodup_iff.mpr (List.nodup_cons.mpr ⟨hnk, ndE⟩)
    have m1 : (k :: l).Perm (keysIn es1.toList) := (m.cons k).trans pk.symm
    have hb1 : es1.size < scanBound := by
      have : es1.size = es.size + 1 := by rw [← Array.length_toList, pc.length_eq, List.length_cons, Array.length_toList]
      omega
    have led1 : w.params.followText "set-order" = true ∨ t1.led = true := hl.imp id fun z => hl1.trans z
    refine wpAny_bind (gave _ ?_)
    by_cases hpl : t1.plain = true
    · rw [if_pos hpl]
      refine wpAny_bind ?_
      rw [hashByValue_scannable 8 hsc]
      refine wpAny_pure ?_
      refine tail_w ?_ ho hx hd g1 nd1 m1 hb1 ?_ ?_ ?_ fun h' sb r => wpAny_pure (hQ _ h' (k :: l) sb r (fun z => absurd z hkl) fun _ => rfl)
      · intro b s₁ Q' q; exact gave b q
      · split
        · exact hf1
        · exact SetTable.fits_plain_off hf1
      · split <;> exact hr1
      · split <;> exact led1
    · rw [if_neg hpl]
      refine wpAny_bind (wpAny_pure ?_)
      simp only [↓reduceIte]
      refine tail_w ?_ ho hx hd g1 nd1 m1 hb1 hf1 hr1 led1 fun h' sb r => wpAny_pure (hQ _ h' (k :: l) sb r (fun z => absurd z hkl) fun _ => rfl)
      intro b s₁ Q' q; exact gave b q

/-- what is walked goes into the set -/
theorem loop_w {I : Addr} {fp : List Addr} {n : Nat} {Pv : Nat → Value → Prop} {St : Nat → Heap → Prop} (W : Walks P w A.in1 I fp [I] n Pv St) (haf : a ∉ fp) (hfI : I ∈ fp) {f : Nat → Key} (hf : ∀ i v, i < n → Pv i v → keyIs (f i) v = true) {R : Result → Shared → Prop} :
    ∀ (m i : Nat) (l : List Key) (s : Shared), n - i = m → i ≤ n → SetW w s.heap a l → St i s.heap → l.length + m < scanBound →
    (∀ (h' : Heap) (tk : Nat) (l' : List Key), (∀ b o, b ≠ a → b ≠ I → s.heap.get? b = some o → h'.get? b = some o) →
      SetW w h' a l' → (∀ k, k ∈ l' ↔ k ∈ l ∨ ∃ j, i ≤ j ∧ j < n ∧ k = f j) → R (.ok (.ret .none)) { s with heap := h', toks := tk }) →
    codeAny (model P w) A (.builtin "set.update.loop" ⟨[.ref a, .ref I], []⟩) R s := by
  have haI : a ≠ I := fun e => haf (e ▸ hfI)
  intro m
  induction m with
  | zero =>
    intro i l s hm hi ha hst hb h
    have hin : i = n := by omega
    subst hin
    refine codeAny_builtin PyProof.Rows.F.entry_set_update_loop ?_
    rw [Around.under_plainId PyProof.Rows.F.plain_set_update_loop _]
    show wpAny _ A.in1 (pyNext (.ref I) >>= _) _ _ s
    refine wpAny_bind (W.done s _ _ hst fun h' tk hk => ?_)
    show wpAny _ A.in1 (ret Value.none) _ _ _
    refine wpAny_pure (h h' tk l (fun b o _ hb e => hk b o (by simpa using hb) e) (ha.at fun o e => hk a o (by simpa using haI) e) fun k => ⟨.inl, fun z => z.elim id fun ⟨j, h1, h2, _⟩ => by omega⟩)
  | succ m ih =>
    intro i l s hm hi ha hst hb h
    have hlt : i < n := by omega
    refine codeAny_builtin PyProof.Rows.F.entry_set_update_loop ?_
    rw [Around.under_plainId PyProof.Rows.F.plain_set_update_loop _]
    show wpAny _ A.in1 (pyNext (.ref I) >>= _) _ _ s
    refine wpAny_bind (W.item i s _ _ hlt hst fun v h1 tk hP hst1 hk1 => ?_)
    have hkey : keyIs (f i) v = true := hf i v hlt hP
    show wpAny _ A.in1 (holding [v] (setAdd a v) >>= _) _ _ _
    refine wpAny_bind (wpAny_holding ?_)
    unfold setAdd
    refine wpAny_holding ?_
    refine wpAny_bind ((mixKind P w).pyHash (k := f i) hkey ?_)
    refine add_w (s := { s with heap := h1, toks := tk + 1 }) (ha.at fun o e => hk1 a o (by simpa using haI) e) hkey (by omega) fun b h2 l2 sb R2 q1 q2 => ?_
    have hl2 : l2.length ≤ l.length + 1 := by
      rcases Classical.em (f i ∈ l) with z | z
      · rw [q1 z]; omega
      · rw [q2 z, List.length_cons]; omega
    have hm2 : ∀ k, k ∈ l2 ↔ k ∈ l ∨ k = f i := fun k => by
      rcases Classical.em (f i ∈ l) with z | z
      · rw [q1 z]
        exact ⟨.inl, fun y => y.elim id fun e => e ▸ z⟩
      · rw [q2 z, List.mem_cons]
        exact Or.comm
    have hst2 : St (i + 1) h2 := W.frame _ _ _ hst1 fun c hc o e => (sb.2 c fun z => haf (z ▸ hc)).trans e
    refine wpAny_pure ⟨plainId_quiet PyProof.Rows.F.plain_set_update_loop _, ih (i + 1) l2 { s with heap := h2, toks := tk + 1 } (by omega) hlt R2 hst2 (by omega) fun h3 tk3 l3 k3 R3 m3 => ?_⟩
    refine h h3 tk3 l3 (fun c o hc1 hc2 e => k3 c o hc1 hc2 ((sb.2 c hc1).trans (hk1 c o (by simpa using hc2) e))) R3 fun k => ?_
    rw [m3 k, hm2 k]
    constructor
    · rintro ((q | q) | ⟨j, j1, j2, q⟩)
      · exact .inl q
      · exact .inr ⟨i, Nat.le_refl _, hlt, q⟩
      · exact .inr ⟨j, by omega, j2, q⟩
    · rintro (q | ⟨j, j1, j2, q⟩)
      · exact .inl (.inl q)
      · by_cases e : j = i
        · subst e; exact .inl (.inr q)
        · exact .inr ⟨j, by omega, j2, q⟩


theorem new_led (v : Value) {Q₁ : Value → Shared → Prop}
    (h : Q₁ (.ref s.heap.objs.size) { s with heap := s.heap.push { cls := .type "set", dict := none, data := .set #[] 0 (.fresh 0 0 (!w.params.followText "set-order")) } }) :
    codeAny (model P w) A (.call (.builtin "set.__new__") ⟨[.type "set", v], []⟩) (wants Q₁ E) s := by
  refine codeAny_of_tree ?_
  show wpAny _ A.in1 (do checkBuiltinCall "set.__new__" ⟨[.type "set", v], []⟩; again (.builtin "set.__new__" ⟨[.type "set", v], []⟩)) _ _ s
  refine wpAny_bind (wpAny_of_eq (PySem.F.newCall_set_1 v) (wpAny_pure ⟨plainId_quiet PySem.F.plain_set_new _, codeAny_builtin PySem.F.entry_set_new ?_⟩))
  rw [Around.under_plainId PySem.F.plain_set_new _]
  have hsub := PySem.sub_set_self
  unfold Builtin.«set.__new__» Builtin.Frozenset.newClass
  obtain ⟨hp, g, d, tk, os⟩ := s
  dsimp only
  wp_walk
  refine wpAny_askSetting (wpAny_pure ?_)
  dsimp only
  simp only [newObj]
  refine wpAny_bind (wpAny_alloc (wpAny_pure ?_))
  exact wpAny_pure h

/-- set(v): what is needed of v and its walk -/
structure Fills (P : Program) (w : World) (h : Heap) (v : Value) (T : String) (n : Nat) (f : Nat → Key) : Prop where
  ty : ∀ s' : Shared, (∀ b o, h.get? b = some o → s'.heap.get? b = some o) → s'.TypeIs v T
  s1 : isSubtype (.type T) (.type "set") = pure false
  s2 : isSubtype (.type T) (.type "frozenset") = pure false
  nd : (Value.type T == Value.type "dict") = false
  it : ∀ (A : Around) (E : Value → Shared → Prop) (s' : Shared) (Q : Value → Shared → Prop), (∀ b o, h.get? b = some o → s'.heap.get? b = some o) →
    (∀ (h' : Heap) (I : Addr) (fp : List Addr) (Pv : Nat → Value → Prop) (St : Nat → Heap → Prop), (∀ b o, s'.heap.get? b = some o → h'.get? b = some o) → s'.heap.objs.size ≤ I → I ∈ fp → (∀ b ∈ fp, b = I ∨ ∃ o, h.get? b = some o) →
      (∀ A2 : Around, A2.handled = none → Walks P w A2 I fp [I] n Pv St) → St 0 h' → (∀ i v, i < n → Pv i v → keyIs (f i) v = true) → Q (.ref I) { s' with heap := h' }) → wpAny (model P w) A (pyIter v) Q E s'

end
end Ami

set_option Elab.async false
set_option linter.all false
set_option maxRecDepth 100000
set_option maxHeartbeats 2000000
namespace Ami
open PySem PySem.Spec PyProof.Rows L2
section
variable {P : Program} {w : World} {A : Around} {E : Value → Shared → Prop} {s : Shared} {a : Addr} {l : List Key}
set_option maxHeartbeats 4000000 in
theorem call_set_w {v : Value} {T : String} {n : Nat} {f : Nat → Key} {Q : Value → Shared → Prop} (hh : A.handled = none) (hn : n < scanBound) (F : Fills P w s.heap v T n f)
    (h : ∀ (h' : Heap) (tk : Nat) (l : List Key), (∀ b o, s.heap.get? b = some o → h'.get? b = some o) → SetW w h' s.heap.objs.size l → (∀ k, k ∈ l ↔ ∃ j, j < n ∧ k = f j) → Q (.ref s.heap.objs.size) { s with heap := h', toks := tk }) :
    wpAny (model P w) A (call (.type "set") [v]) Q E s := by
  obtain ⟨c, tl, hmro⟩ := PySem.F.called_set.mro
  have hmade := PySem.F.called_set.made
  have hsub := PySem.F.called_set.sub
  have keep0 : ∀ b o, s.heap.get? b = some o → (s.heap.push { cls := .type "set", dict := none, data := .set #[] 0 (.fresh 0 0 (!w.params.followText "set-order")) }).get? b = some o := fun b o e => Heap.get?_push_of_some _ e
  refine wpAny_call (codeAny_of_tree ?_)
  show wpAny _ _ (callAny (.type "set") _) _ _ _
  refine wpAny_pure ⟨Code.quiet_builtin _ (by decide +kernel), codeAny_builtin PySem.F.entry_type_call ?_⟩
  rw [Around.under_plain (weight_type_call_type "set" [v] []) rfl]
  have h1 := PySem.F.called_set.notType
  have h2 := PySem.F.called_set.canCreate
  have hct := PySem.F.typeCall_set_1 v
  repeat (any_goals (first | assumption | wp_step))
  refine codeAny_mono (new_led v (E := E) (Q₁ := fun obj s₁ => obj = .ref s.heap.objs.size ∧ s₁ = { s with heap := s.heap.push { cls := .type "set", dict := none, data := .set #[] 0 (.fresh 0 0 (!w.params.followText "set-order")) } }) ⟨rfl, rfl⟩) fun r s₁ hr => ?_
  cases r with
  | error e => exact hr
  | ok fl =>
    cases fl with
    | ret obj =>
      obtain ⟨rfl, rfl⟩ := hr
      have hS : (s.heap.push { cls := .type "set", dict := none, data := .set #[] 0 (.fresh 0 0 (!w.params.followText "set-order")) }).get? s.heap.objs.size = some { cls := .type "set", dict := none, data := .set #[] 0 (.fresh 0 0 (!w.params.followText "set-order")) } := Heap.get?_push_size _ rfl
      have hT : Shared.TypeIs { s with heap := s.heap.push { cls := .type "set", dict := none, data := .set #[] 0 (.fresh 0 0 (!w.params.followText "set-order")) } } (.ref s.heap.objs.size) "set" := ⟨_, hS, rfl⟩
      have hli := PySem.F.called_set.init.lookup
      have hbi := PySem.F.called_set.init.bind (.ref s.heap.objs.size)
      repeat (any_goals (first | assumption | wp_step))
      refine codeAny_mono (codeAny_call_builtin (R := wants (fun r s₂ => r = .none ∧ ∃ h' tk l, s₂ = { s with heap := h', toks := tk } ∧ (∀ b o, s.heap.get? b = some o → h'.get? b = some o) ∧ SetW w h' s.heap.objs.size l ∧
          (∀ k, k ∈ l ↔ ∃ j, j < n ∧ k = f j)) E) PySem.F.called_set.init.plain PySem.F.entry_set_init (PySem.check_set_init_1 hT ?_)) fun r₂ s₂ hr₂ => ?_
      · have hTv := F.ty { s with heap := s.heap.push { cls := .type "set", dict := none, data := .set #[] 0 (.fresh 0 0 (!w.params.followText "set-order")) } } keep0
        have q1 := F.s1
        have q2 := F.s2
        have q3 := F.nd
        unfold Builtin.«set.__init__» noKeywords Builtin.Frozenset.updateFrom
        generalize hPI : pyIter = PI
        wp_walk
        subst hPI
        refine F.it _ _ _ _ keep0 fun h1' I fp Pv St k1 hI hfI hfp W st hkey => ?_
        have hI' : s.heap.objs.size + 1 ≤ I := by
          have z := hI
          simp only [Heap.size_push] at z
          exact z
        have haf : s.heap.objs.size ∉ fp := fun m => by
          rcases hfp _ m with z | ⟨o, z⟩
          · exact absurd hI' (by rw [← z]; exact Nat.not_succ_le_self _)
          · exact absurd (Heap.lt_size z) (Nat.lt_irrefl _)
        refine wpAny_bind (wpAny_runValue ?_)
        refine loop_w (A := A.in1.in1) (W _ (by simp [hh])) haf hfI hkey n 0 [] _ (Nat.sub_zero n) (Nat.zero_le _) ((setW_fresh w _ ?_).at fun o e => k1 _ o e) st (by simpa using hn) fun h2 tk l2 k2 R2 m2 => ?_
        · cases w.params.followText "set-order"
          · exact .inr rfl
          · exact .inl rfl
        · refine wpAny_pure ?_
          show wpAny _ _ (ret Value.none) _ _ _
          refine wpAny_pure ⟨rfl, h2, tk, l2, rfl, fun b o e => ?_, R2, fun k => ?_⟩
          · have hb := Heap.lt_size e
            exact k2 b o (Nat.ne_of_lt hb) (Nat.ne_of_lt (Nat.lt_of_lt_of_le hb (Nat.le_of_succ_le hI'))) (k1 b o (keep0 b o e))
          · rw [m2 k]
            constructor
            · rintro (z | ⟨j, _, h2, h3⟩)
              · cases z
              · exact ⟨j, h2, h3⟩
            · rintro ⟨j, h2, h3⟩
              exact .inr ⟨j, Nat.zero_le _, h2, h3⟩
      · cases r₂ with
        | error e => exact hr₂
        | ok fl₂ =>
          cases fl₂ with
          | ret r =>
            obtain ⟨rfl, h', tk, l, rfl, hk', hS', hm'⟩ := hr₂
            repeat (any_goals (first | assumption | wp_step))
            exact h _ _ l hk' hS' hm'
          | _ => exact hr₂.elim
    | _ => exact hr.elim

/-- a text's signs fill a set -/
theorem fills_text {x : Str} {t : Tok} {h : Heap} : Fills P w h (.str x t) "str" x.cps.size (fun i => .inr (one (x.cps.getD i 0))) where
  ty := fun s' _ => typeIs_str s' x t
  s1 := by rw [isSubtype_type]; kernel_rfl
  s2 := by rw [isSubtype_type]; kernel_rfl
  nd := by decide
  it := fun A E s' Q k hq => by
    refine wpAny_pyIter_str fun o St W hst => ?_
    refine hq _ s'.heap.objs.size [s'.heap.objs.size] (SignAt x) St (fun b o' e => Heap.get?_push_of_some _ e) (Nat.le_refl _) (List.mem_singleton.mpr rfl) (fun b hb => .inl (List.mem_singleton.mp hb)) (fun A2 h2 => W A2 h2) hst fun i v hi hv => ?_
    obtain ⟨c, u, e1, e2⟩ := hv
    subst e2
    have e3 : x.cps.getD i 0 = c := by
      rw [Array.getD_eq_getD_getElem?, e1]; rfl
    rw [e3]
    exact keyIs_str _ _
end
end Ami

set_option Elab.async false
set_option linter.all false
set_option maxRecDepth 100000
set_option maxHeartbeats 2000000
namespace Ami
open PySem PySem.Spec PyProof.Rows L2
section
variable {P : Program} {w : World} {A : Around} {E : Value → Shared → Prop} {s : Shared} {a : Addr} {l : List Key}
theorem strs_of_keys : ∀ {us : List Value} {ss : List Str}, us.map kOf = ss.map Sum.inr → (∀ v ∈ us, keyIs (kOf v) v = true) → StrsAre us ss
  | [], [], _, _ => .nil
  | [], _ :: _, e, _ => by cases e
  | _ :: _, [], e, _ => by cases e
  | v :: us, x :: ss, e, g => by
    rw [List.map_cons, List.map_cons] at e
    obtain ⟨e1, e2⟩ := List.cons.inj e
    have h1 := g v List.mem_cons_self
    rw [e1] at h1
    obtain ⟨t, rfl⟩ : ∃ t, v = .str x t := by
      rcases keyIs_shape h1 with ⟨i, t, h, _⟩ | ⟨y, t, h, h2⟩
      · cases h
      · cases h; exact ⟨t, h2⟩
    exact .cons x t (strs_of_keys e2 fun u hu => g u (List.mem_cons_of_mem _ hu))

/-- sorted of a set of texts -/
theorem sorted_w {ss : List Str} {Q : Value → Shared → Prop} (R : SetW w s.heap a (ss.map Sum.inr)) (hh : A.handled = none) (h64 : ss.length < 64)
    (hQ : ∀ s' p (out : Array Value) (c : Nat) (ys : List Str), (∀ b o, s.heap.get? b = some o → s'.heap.get? b = some o) → s'.gens = s.gens → s'.os = s.os → s.heap.objs.size ≤ p →
      s'.heap.get? p = some (seqObj "list" out c) → StrsAre out.toList ys → ys.Perm ss → sortedS ys = true → Q (.ref p) s') :
    wpAny (model P w) A (call (.builtin "sorted") [.ref a]) Q E s := by
  obtain ⟨o, es, ep, t, ho, hx, hd, g, nd, m, hb, hf, hr, hl⟩ := R
  refine Calls.call_function_entry kind_sorted plain_sorted entry_sorted (args_sorted1 _) ?_
  unfold Builtin.«sorted»
  refine wpAny_bind (m := checkCount "sorted" 1 1 _) (wpAny_pure ?_)
  refine wpAny_bind (collect_set (A := A.in1) hh ⟨o, ho, hx.1, hd⟩ hf hb hr hl fun s1 vs k1 hz g1 o1 pm => ?_)
  have pk : (vs.map kOf).Perm (ss.map Sum.inr) := by
    have q := pm.map kOf
    rw [List.map_map] at q
    exact q.trans m.symm
  obtain ⟨ts, et, pt⟩ : ∃ ts : List Str, vs.map kOf = ts.map Sum.inr ∧ ts.Perm ss := by
    refine ⟨(vs.map kOf).map fun k => (match k with | .inr x => x | .inl _ => Str.empty), ?_, ?_⟩
    · rw [List.map_map]
      have : ∀ k ∈ vs.map kOf, k = Sum.inr (match k with | .inr x => x | .inl _ => Str.empty) := fun k hk => by
        obtain ⟨x, _, e⟩ := List.mem_map.mp (pk.mem_iff.mp hk)
        rw [← e]
      conv => lhs; rw [← List.map_id (vs.map kOf)]
      exact List.map_congr_left this
    · have q := pk.map fun k : Key => (match k with | .inr x => x | .inl _ => Str.empty)
      rw [List.map_map (l := ss)] at q
      have e : (ss.map ((fun k : Key => (match k with | .inr x => x | .inl _ => Str.empty)) ∘ Sum.inr)) = ss := by
        conv => rhs; rw [← List.map_id ss]
        exact List.map_congr_left fun _ _ => rfl
      rw [e] at q
      exact q
  have hS : StrsAre vs ts := strs_of_keys et fun v hv => by
    obtain ⟨e, he, q⟩ := List.mem_map.mp (pm.mem_iff.mp hv)
    rw [← q]
    exact (g e he).1
  have hvl : vs.length = ss.length := by
    have := pk.length_eq
    rw [List.length_map, List.length_map] at this
    exact this
  refine wpAny_bind (wpAny_newList ?_ (by rw [hvl, sizeLine_eq]; omega))
  have hoL : (s1.heap.push (seqObj "list" vs.toArray 0)).get? s1.heap.objs.size = some (seqObj "list" vs.toArray 0) := Heap.get?_push_size _ rfl
  refine wpAny_bind (wpAny_holding (wpAny_call_entry slot_list_sort ⟨_, hoL, rfl⟩ entry_list_sort
    (list_sort_treeK strKind_oneLt hoL hS.keysOf (fun v₁ v₂ rest e => keyKind_strs (by rw [← e]; exact hS)) (by rw [hvl]; exact h64) fun st' hp hs => ⟨_, rfl, ?_⟩) (args_list_sort _)))
  obtain ⟨ys, g1', g2, g3⟩ := sorted_out_str hS hp hs
  obtain ⟨c, hc⟩ := sortedHeap_at (vs := vs) (out := (arrOf st').map (·.2)) hoL
  refine wpAny_pure ⟨_, rfl, hQ _ s1.heap.objs.size ((arrOf st').map (·.2)) c ys (fun b u e => ?_) g1 o1 hz hc g1' (g2.trans pt) g3⟩
  have q := k1 b u e
  have hlt := Heap.lt_size q
  show (sortedHeap (s1.heap.push (seqObj "list" vs.toArray 0)) s1.heap.objs.size vs ((arrOf st').map (·.2))).get? b = some u
  rw [sortedHeap_old (Nat.ne_of_lt hlt) (by rw [Heap.size_push]; exact Nat.lt_succ_of_lt hlt)]
  exact Heap.get?_push_of_some _ q
end

/-! ### the rules -/
/-- a set of keys, tracked -/
def SW (w : World) (a : Addr) (l : List Key) : HO := .ext fun h => SetW w h a l
section
variable {X : Cx}
theorem sw_new {H : Hp} {h : Heap} {a : Addr} {l : List Key} {P : Program} {w : World} (R : SetW w h a l) : ObjOk P w H h a (SW w a l) := by
  have ⟨o, _, _, _, ho, _⟩ := R
  exact ⟨R, ⟨o, ho⟩, fun h1 h2 p k => p.at k⟩
theorem sw_get {pins : List (Addr × Obj)} {σ : L2.St} {H : Hp} {s : Shared} {a : Addr} {l : List Key} (I : Inv X pins σ H s) (ha : H a = some (SW X.w a l)) : SetW X.w s.heap a l := (I.hok a _ ha).1
/-- set(z) -/
theorem cr_setStr (hc : X.calm = true) : CallR X (.type "set") (fun vs H Q => ∃ z : Str, vs = [.str z] ∧ z.length < scanBound ∧
    ∀ p l, H p = none → l.Nodup → (∀ x, Sum.inr x ∈ l ↔ x ∈ letts z) → (∀ k ∈ l, ∃ x, k = Sum.inr x) → Q (.ref p) (upd H p (SW X.w p l))) := by
  intro pins s σ H vs us Q I r h
  obtain ⟨z, rfl, hz, q⟩ := h
  obtain ⟨u, rfl, t, rfl⟩ := vals1 r
  refine call_set_w (I.ok.hd hc) (n := z.cps.size) hz fills_text fun h' tk l k R m => ?_
  have hm : ∀ k, k ∈ l ↔ ∃ x ∈ letts z, k = Sum.inr x := fun k => by
    rw [m k]
    constructor
    · rintro ⟨j, hj, e⟩
      refine ⟨one (z.cps.getD j 0), ?_, e⟩
      unfold letts
      refine List.mem_map.mpr ⟨_, ?_, rfl⟩
      rw [Array.getD_eq_getD_getElem?, Array.getElem?_eq_getElem hj]
      exact Array.mem_toList_iff.mpr (Array.getElem_mem hj)
    · rintro ⟨x, hx, e⟩
      obtain ⟨c, hc, e2⟩ := List.mem_map.mp hx
      obtain ⟨j, hj, e3⟩ := List.getElem_of_mem hc
      rw [Array.length_toList] at hj
      refine ⟨j, hj, ?_⟩
      rw [e, ← e2, Array.getD_eq_getD_getElem?, Array.getElem?_eq_getElem hj]
      rw [Array.getElem_toList] at e3
      rw [e3]; rfl
  refine ⟨.ref s.heap.objs.size, _, I.laid (t' := tk) k (Nat.le_refl _) (sw_new R), rfl, q _ l (I.hok.fresh (Nat.le_refl _)) R.nodup (fun x => ?_) fun k hk => ?_⟩
  · rw [hm]
    exact ⟨fun ⟨y, hy, e⟩ => by cases e; exact hy, fun hy => ⟨x, hy, rfl⟩⟩
  · obtain ⟨x, _, e⟩ := (hm k).mp hk
    exact ⟨x, e⟩
/-- sorted of such a set of texts -/
theorem cr_sortedW (hc : X.calm = true) : CallR X (.builtin "sorted") (fun vs H Q => ∃ (a : Addr) (ss : List Str), vs = [.ref a] ∧ H a = some (SW X.w a (ss.map Sum.inr)) ∧ ss.length < 64 ∧
    ∀ ys p, ys.Perm ss → sortedS ys = true → H p = none → Q (.ref p) (upd H p (.lst (ys.map V.str)))) := by
  intro pins s σ H vs us Q I r h
  obtain ⟨a, ss, rfl, ha, h64, q⟩ := h
  rw [Vals.ref1 r]
  refine sorted_w (sw_get I ha) (I.ok.hd hc) h64 fun s' p out c ys k g o hp hg hs hpm hso => ?_
  have hlen : (ys.map V.str).length ≤ sizeLine := by rw [List.length_map, hpm.length_eq, sizeLine_eq]; omega
  have hn : H p = none := I.hok.fresh hp
  have J : Inv X pins σ (upd H p (.lst (ys.map V.str))) { s with heap := s'.heap, gens := s'.gens, drawn := s'.drawn, toks := s'.toks } :=
    I.call (ch := []) (Un.laid k hp hn) (I.hok.laid k hp ⟨hlen, out.toList, c, vals_of_strs hs, hg⟩) (by rw [g]; exact I.bare) (fun _ z => nomatch z)
  have e : s' = { s with heap := s'.heap, gens := s'.gens, drawn := s'.drawn, toks := s'.toks } := by
    cases s'
    cases s
    cases o
    rfl
  rw [e]
  exact ⟨.ref p, _, J, rfl, q ys p hpm hso hn⟩
end
end Ami

set_option Elab.async false
set_option linter.all false
set_option maxRecDepth 100000
set_option maxHeartbeats 2000000
namespace Ami
open PySem PySem.Spec PyProof.Rows L2

/-- a def keeps a promise where nothing is being shown: no guard of repr stands below -/
structure FnG (P : Program) (w : World) (K : PySem.W.Frag) (mg : Str → Option Value) (base : Heap) (CX : CXT) (k : Nat) (f : Addr) (fd : FuncData) (ps : List Str) (sp : Sp) : Prop where
  len : ∀ vs H Q E, sp vs H Q E → vs.length = ps.length
  run : ∀ (A : Around) (outer : List Env) (s : Shared) (H : Hp) (args : Args) (us : List Value) (vs : List V) (Q : VK) (E : XK), A.guards = some [] → Room k A → Env0 P w K mg base A outer s H →
    BindsTo s fd args (ps.zip us) → Vals vs us → sp vs H Q E → codeAny (model P w) A (.call (.ref f) args) (CR CX outer P w H s Q E) s
theorem FnG.of {P : Program} {w : World} {K : PySem.W.Frag} {mg : Str → Option Value} {base : Heap} {CX : CXT} {k : Nat} {f : Addr} {fd : FuncData} {ps : List Str} {sp : Sp} (F : FnOk P w K mg base CX k f fd ps sp) : FnG P w K mg base CX k f fd ps sp :=
  ⟨F.len, fun A outer s H args us vs Q E _ => F.run A outer s H args us vs Q E⟩
theorem guards_deeper {A : Around} (env : Env) (h : A.guards = some []) : (A.deeper env).guards = some [] := by
  show (A.guards) = some []
  exact h

section
variable {P : Program} {w : World} {K : PySem.W.Frag} {mg : Str → Option Value} {base : Heap}
theorem Fun.okG {x qual : Str} {st : Stmt} {f : Addr} {fd : FuncData} {N ps : List Str} {k : Nat} {sp : Sp} (F : Fun K x qual st f fd) (S : FnScope N ps (defScope st)) (len : ∀ vs H Q E, sp vs H Q E → vs.length = ps.length)
    (hbody : ∀ (cdv : Value) (A : Around) (outer : List Env) (s : Shared) (H : Hp) (vs : List V) (Q : VK) (E : XK), A.guards = some [] → Room k (A.deeper (envOfC qual (defScope st) s.heap.objs.size f cdv)) → sp vs H Q E →
      ∃ t, PSs (cxOf CX0 P w K mg base N qual (defScope st) f cdv A outer s H E).nox (defBody st) t ∧ t { nx := fun _ H' => Q .non H', rt := Q } (start N vs) H) : FnG P w K mg base CX0 (k + 1) f fd ps sp := by
  obtain ⟨oc, od, kV, doc, pm, an, cdv, ct, osl, rfl, lk, hcd⟩ := F.ex
  refine ⟨len, fun A outer s H args us vs Q E hg hr e0 hb r hsp => ?_⟩
  have hl := len _ _ _ _ hsp
  have KX : K.In s.heap := e0.mod.kin.keeps fun b o e => (e0.bs b o e).1
  have lim : s.heap.NoLimit := e0.mod.nolimit.keeps fun b o e => (e0.bs b o e).1
  have par : ∀ y ∈ ps.zip us, (defScope st).names.lookup y.1 = some .local ∨ ((defScope st).names.lookup y.1 = some .cell ∧ ((cellsFrom (s.heap.objs.size + 1) (defScope st).names []).lookup y.1).isSome = true) := fun ⟨n, v⟩ hy => by
    rcases S.par n (List.of_mem_zip hy).1 with q | q
    · exact .inl q
    · exact .inr ⟨q, PySem.W.cellsFrom_some _ _ _ (.inl q)⟩
  refine codeAny_call_function hr.depth (KX _ _ lk) rfl S.co S.gen rfl (PySem.W.codeRec_of KX hcd) (hb _ _ _ _ ?_)
  refine wpAny_newFunctionEnv_cells S.kind par fun env he s1 x => ?_
  subst he
  refine ⟨lim.keeps x.toInCall.keep, codeAny_func ?_⟩
  obtain ⟨t, ht, hq⟩ := hbody cdv A outer s H vs Q E hg (hr.deeper _) hsp
  have I : Inv (cxOf CX0 P w K mg base N qual (defScope st) f cdv A outer s H E) [] (start N vs) H s1 := inv_start S hr.hd e0 hl r x
  refine wpAny_mono (ht.nox.run [] s1 (start N vs) H _ I hq) (fun fl s' hs => ?_) fun e s' hs => hs
  have fin : ∀ {σ' : L2.St} {H' : Hp} {v : V} {u : Value}, Inv (cxOf CX0 P w K mg base N qual (defScope st) f cdv A outer s H E) [] σ' H' s' → RelV v u → Q v H' → CE outer P w H s Q u s' :=
    fun {σ' H' v u} J rv q => ⟨v, H', J.os, J.bare, J.base, J.hok, rv, q⟩
  cases fl with
  | ret u => obtain ⟨v, σ', H', J, rv, q⟩ := hs; exact fin J rv q
  | next => obtain ⟨σ', H', J, q⟩ := hs; exact fin (v := V.non) (u := Value.none) J rfl q
  | brk => obtain ⟨_, _, _, q⟩ := hs; exact False.elim q
  | cont => obtain ⟨_, _, _, q⟩ := hs; exact False.elim q
end

section
variable {X : Cx} {CX : CXT} {k : Nat} {f C : Addr} {fd : FuncData} {ps : List Str} {sp : Sp} {dvs : List V} {ds : List Value} {E : XK} {x m : Str} {p pos apos : Pos} {e o : Expr} {es : List Expr} {ta : TE} {t : TA}
theorem run_fnG {pins : List (Addr × Obj)} {σ : L2.St} {H : Hp} {s : Shared} {Q : VK} {us : List Value} {vs : List V} (F : FnG X.prog X.w X.K X.mg X.base CX k f fd ps sp) (hg : X.A.guards = some []) (hr : Room k X.A) (hb : Binds X.K fd ps ds) (hd : Vals dvs ds) (hx : Passes CX X E)
    (I : Inv X pins σ H s) (r : Vals vs us) (h : sp (vs ++ dvs) H Q E) : wpAny (model X.prog X.w) X.A (call (.ref f) us) (EP X pins σ Q) X.xe s := by
  have r2 : Vals (vs ++ dvs) (us ++ ds) := r.append hd
  have hl : (us ++ ds).length = ps.length := by rw [← r2.length]; exact F.len _ _ _ _ h
  refine wpAny_call (codeAny_mono (F.run X.A X.stack s H ⟨us, []⟩ (us ++ ds) (vs ++ dvs) Q E hg hr I.env0 (hb s us I.kIn hl) r2 h) fun r s' hq => ?_)
  cases r with
  | error e => exact hx pins σ H s e s' I hq
  | ok fl =>
    cases fl with
    | ret u => exact I.after hq
    | next => exact False.elim hq
    | brk => exact False.elim hq
    | cont => exact False.elim hq
theorem pe_callG (F : FnG X.prog X.w X.K X.mg X.base CX k f fd ps sp) (hg : X.A.guards = some []) (hr : Room k X.A) (hgl : Gl X x) (hm : X.mg x = some (.ref f)) (hk : PySem.W.keepIn X.K (.ref f) = true) (hb : Binds X.K fd ps ds) (hd : Vals dvs ds) (hx : Passes CX X E)
    (ha : PA X (e :: es) t) (hdb : (x == ("__debug__" : Str)) = false := by decide) (he : starEach (e :: es) X.env = (false, eval e X.env) :: starEach es X.env := by rfl) (hpl : (backTo pos (starEach es X.env)).any (·.1) = false := by rfl) :
    PE X (.Call (.Name x p) (e :: es) [] pos) (tCall sp dvs E t) := by
  refine ⟨fun pins s σ H Q I h => ?_⟩
  refine wpAny_Call_Name_kw (ld_glob I hgl hm ?_ hdb)
  refine PySem.W.callWith_K (h₀ := X.base) I.ok.mod.kin hk (thn (ha.run pos pins s σ H _ I h) fun us s1 ⟨vs, H1, I1, r, q⟩ => ⟨I1.kIn, ?_⟩) he hpl
  exact run_fnG F hg hr hb hd hx I1 r q
end

/-- the law's call, at the heap behind the top -/
theorem law_callG {P : Program} {w : World} {K : PySem.W.Frag} {mg mb : Str → Option Value} {k : Nat} {fa a : Addr} {fd : FuncData} {x : Str} {sp : Sp} {s₁ : Shared} {vs : List Value} {ns : List Int}
    (KX : K.In s₁.heap) (hns : s₁.heap.Ns mainGlobals mg) (hb : s₁.heap.Ns builtinsNs mb) (hbb : ∀ x : Str, x ≠ "__name__" → mb x = bootBuiltins x) (hlim : s₁.heap.NoLimit) (hg : s₁.gens = #[])
    (ha : s₁.heap.get? a = some { cls := .type "list", data := .seq vs.toArray }) (hi : IntsAre vs ns) (hl : ns.length ≤ sizeLine) (hr : Room k callerA)
    (F : ∀ base : Heap, K.In base → base.Ns mainGlobals mg → FnG P w K mg base CX0 k fa fd [x] sp) (hbind : ∀ (s : Shared) (u : Value), BindsTo s fd ⟨[u], []⟩ [(x, u)])
    (hsp : ∀ H : Hp, Only H → SqL K H a (ns.map V.int) → sp [.ref a] H (fun v _ => v = .bl true) fun _ _ _ => False) :
    codeAny (model P w) callerA (.call (.ref fa) ⟨[.ref a], []⟩) (fun r s' => r = .ok (.ret (.bool true)) ∧ OldK s₁.heap s'.heap ∧ s'.os = s₁.os ∧ AllBare s'.gens) s₁ := by
  have hfake : ∀ (H0 : Hp), (∀ b, H0 b ≠ none → b = a) → Only H0 → SqL K H0 a (ns.map V.int) → HOk P w H0 s₁.heap → (H0 a ≠ none → K.lookup a = none) →
      codeAny (model P w) callerA (.call (.ref fa) ⟨[.ref a], []⟩) (fun r s' => r = .ok (.ret (.bool true)) ∧ OldK s₁.heap s'.heap ∧ s'.os = s₁.os ∧ AllBare s'.gens) s₁ := by
    intro H0 hA hO hS hok hK
    have isList : ∀ {b : Addr}, H0 b ≠ none → s₁.heap.get? b = some { cls := .type "list", data := .seq vs.toArray } := fun {b} h => by rw [hA b h]; exact ha
    have untr : ∀ {b : Addr} {o : Obj} {es : Array DictEntry} {ep : Nat}, s₁.heap.get? b = some o → o.data = .dict es ep → H0 b = none := fun {b o es ep} e d => by
      refine Classical.byContradiction fun c => ?_
      have e2 := isList c
      rw [e] at e2
      rw [Option.some.inj e2] at d
      exact nomatch d
    have hbase : ∀ {b : Addr} {o : Obj}, s₁.heap.get? b = some o → H0 b = none → (hidT s₁.heap H0).get? b = some o := fun e n => hidT_get e n
    have nsK : ∀ {b : Addr} {m : Str → Option Value}, s₁.heap.Ns b m → (hidT s₁.heap H0).Ns b m := fun {b m} ⟨o, es, ep, e, d, r⟩ => ⟨o, es, ep, hbase e (untr e d), d, r⟩
    have inK : K.In (hidT s₁.heap H0) := fun b o e => hbase (KX b o e) (Classical.byContradiction fun c => by
      have z := hA b c
      subst z
      rw [hK c] at e
      cases e)
    obtain ⟨mc, n1, n2⟩ := hlim
    have hM : Mod K mg (hidT s₁.heap H0) := ⟨inK, nsK hns, ⟨mb, nsK hb, hbb⟩, mc, nsK n1, n2⟩
    have e0 : Env0 P w K mg (hidT s₁.heap H0) callerA [] s₁ H0 := ⟨rfl, hM, fun b o e => of_hidT e, Nat.le_of_eq (hidT_size _ _), trivial, fun b hb => absurd (show b ∈ ([] : List Addr) from hb) (by simp), hok, .of_eq hg⟩
    refine codeAny_mono ((F _ inK (nsK hns)).run callerA [] s₁ H0 ⟨[.ref a], []⟩ [.ref a] [.ref a] _ _ rfl hr e0 (hbind s₁ (.ref a)) (.cons rfl .nil) (hsp H0 hO hS)) fun r s' h => ?_
    cases r with
    | error e => exact False.elim h
    | ok fl =>
      cases fl with
      | next => exact False.elim h
      | brk => exact False.elim h
      | cont => exact False.elim h
      | ret u =>
        obtain ⟨v, H', os, bare, un, hok', rv, q⟩ := h
        have q' : v = .bl true := q
        subst q'
        have hu : u = Value.bool true := rv
        subst hu
        refine ⟨rfl, OldK.of_keep fun b o e => ?_, os, bare⟩
        rcases hO b with z | ⟨ob, xs, z⟩
        · exact un.keep b o e z (fun m => absurd (show b ∈ ([] : List Addr) from m) (by simp)) (by simp)
        · have p1 := (hok b _ z).1
          have p2 := (hok' b _ (un.frzs b ob _ z)).1
          rw [e] at p1
          rw [Option.some.inj p1]
          exact p2
  cases hk : K.lookup a with
  | some o =>
    have e := KX a o hk
    rw [ha] at e
    cases e
    exact hfake (fun _ => none) (fun b z => absurd rfl z) (fun _ => .inl rfl) (.inr ⟨_, vs.toArray, _, hk, rfl, rfl, rfl, by rw [List.size_toArray, hi.length]; exact hl, by simpa using vals_ints hi⟩) (fun b u z => nomatch (show (none : Option HO) = some u from z)) fun z => absurd rfl z
  | none =>
    refine hfake (fun b => if b = a then some (.frz { cls := .type "list", data := .seq vs.toArray } (.lst (ns.map V.int))) else none) (fun b z => ?_) (fun b => ?_) (.inl (.inr ⟨{ cls := .type "list", data := .seq vs.toArray }, if_pos rfl⟩)) (fun b u z => ?_) fun _ => hk
    · exact Classical.byContradiction fun c => z (if_neg c)
    · by_cases c : b = a
      · exact .inr ⟨_, _, if_pos c⟩
      · exact .inl (if_neg c)
    · by_cases c : b = a
      · have z' := (if_pos c).symm.trans z
        cases z'
        subst c
        exact ⟨ha, by rw [List.length_map]; exact hl, vs, _, vals_ints hi, ha⟩
      · exact nomatch (if_neg c).symm.trans z

/-- the end: what k_head leaves, from the law's promise -/
theorem walk_ofG {l : PySem.W.OpenLaw} {n k : Nat} {q : Program} {loose : List Str} {XP : (Str → Option Value) → Heap → Prop} {YP : World → Heap → Prop} {d : DefRec} {K : Params → PySem.W.Frag} {sp : World → Sp} {x : Str}
    (hn : l.most = some n) (hn2 : n ≤ sizeLine) (hdf : d.params.defaults = []) (hr : Room k callerA) (hY : ∀ (w : World) (h : Heap), YP w h → (K w.params).In h)
    (F : ∀ (w : World) (mg : Str → Option Value) (fa : Addr) (h : Heap), (K w.params).In h → h.Ns mainGlobals mg → mg d.name = some (.ref fa) →
      ∃ fd : FuncData, (∀ (s : Shared) (u : Value), BindsTo s fd ⟨[u], []⟩ [(x, u)]) ∧
        ∀ base : Heap, (K w.params).In base → base.Ns mainGlobals mg → FnG l.prog w (K w.params) mg base CX0 k fa fd [x] (sp w))
    (hsp : ∀ (w : World) (H : Hp) (a : Addr) (ns : List Int), ns.length ≤ n → Only H → SqL (K w.params) H a (ns.map V.int) → sp w [.ref a] H (fun v _ => v = .bl true) fun _ _ _ => False) :
    PySem.W.WalkO q loose XP YP l.row.toRowW d [] (fun f vs => PySem.call f vs) := by
  refine Att.attach_call hn hdf fun w s₀ s₁ mg mb fa o pm cd doc a vs ns G Y ho hd hcd hmg hobj hints hlen hg => ?_
  obtain ⟨fd, hb, hF⟩ := F w mg fa _ (hY w _ Y) G.T.g hmg
  exact law_callG (hY w _ Y) G.T.g G.T.b G.T.builtins G.T.nolimit hg hobj hints (Nat.le_trans hlen hn2) hr hF hb fun H hO hS => hsp w H a ns hlen hO hS
end Ami

set_option Elab.async false
set_option linter.all false
set_option maxRecDepth 100000
set_option maxHeartbeats 2000000
namespace Ami
open PySem PySem.Spec PyProof.Rows L2

/-! ### calls by keywords alone -/
section
variable {X : Cx} {CX : CXT} {k : Nat} {f C : Addr} {fd : FuncData} {ps ks : List Str} {sp : Sp} {E : XK} {x : Str} {p pos : Pos} {kws : List Keyword} {tk : TA} {g : List Value → List Value → List Value} {gV : List V → List V → List V}
theorem pe_callK0 (F : FnOk X.prog X.w X.K X.mg X.base CX k f fd ps sp) (hr : Room k X.A) (hg : Gl X x) (hm : X.mg x = some (.ref f)) (hk : PySem.W.keepIn X.K (.ref f) = true) (hb : KBinds X.K fd ps ks g gV) (hx : Passes CX X E) (hkw : PK X kws tk)
    (hall : (backToKw pos (keywordEach kws X.env)).all (·.1.isSome) = true := by rfl) (hks : (backToKw pos (keywordEach kws X.env)).filterMap (·.1) = ks := by rfl) (hdb : (x == ("__debug__" : Str)) = false := by decide)
    (hpl : ((backTo pos (starEach [] X.env)).any (·.1) || (backToKw pos (keywordEach kws X.env)).any (·.1.isNone)) = false := by rfl) :
    PE X (.Call (.Name x p) [] kws pos) (tCallK sp gV E tNil tk) := by
  refine ⟨fun pins s σ H Q I h => ?_⟩
  refine wpAny_Call_Name_kw (ld_glob I hg hm ?_ hdb)
  refine PySem.W.callWith_KW0 (h₀ := X.base) I.ok.mod.kin hk hall ?_ hpl
  refine thn (hkw.run pos pins s σ H _ I h) fun ws s2 ⟨zs, H2, I2, rz, q2⟩ => ⟨I2.kIn, ?_⟩
  rw [hks]
  exact run_fnk F hr hb hx I2 .nil rz q2
end

/-! ### a def of the text, with all that a call of it wants -/
structure DefAt (K : PySem.W.Frag) (mg : Str → Option Value) (x : Str) (st : Stmt) (ps : List Str) (f : Addr) (fd : FuncData) : Prop where
  F : Fun K x x st f fd
  b : Binds K fd ps []
  g : mg x = some (.ref f)
section
variable {X : Cx} {k : Nat} {f : Addr} {fd : FuncData} {ps : List Str} {sp : Sp} {x : Str} {st : Stmt} {p pos : Pos} {e : Expr} {es : List Expr} {t : TA}
/-- f(e, ..), of a def that lets nothing out -/
theorem pc (D : DefAt X.K X.mg x st ps f fd) (G : FnOk X.prog X.w X.K X.mg X.base CX0 k f fd ps sp) (hr : Room k X.A) (ha : PA X (e :: es) t) (hg : Gl X x := by rfl) (hdb : (x == ("__debug__" : Str)) = false := by decide)
    (he : starEach (e :: es) X.env = (false, eval e X.env) :: starEach es X.env := by rfl) (hpl : (backTo pos (starEach es X.env)).any (·.1) = false := by rfl) : PE X (.Call (.Name x p) (e :: es) [] pos) (tCall sp [] E0 t) :=
  pe_call G hr hg D.g D.F.kp D.b .nil pass0 ha hdb he hpl
theorem pcG (D : DefAt X.K X.mg x st ps f fd) (G : FnG X.prog X.w X.K X.mg X.base CX0 k f fd ps sp) (hgu : X.A.guards = some []) (hr : Room k X.A) (ha : PA X (e :: es) t) (hg : Gl X x := by rfl) (hdb : (x == ("__debug__" : Str)) = false := by decide)
    (he : starEach (e :: es) X.env = (false, eval e X.env) :: starEach es X.env := by rfl) (hpl : (backTo pos (starEach es X.env)).any (·.1) = false := by rfl) : PE X (.Call (.Name x p) (e :: es) [] pos) (tCall sp [] E0 t) :=
  pe_callG G hgu hr hg D.g D.F.kp D.b .nil pass0 ha hdb he hpl
end

/-! ### the deck -/
/-- all but d and c stands as it stood -/
def But (d c : Addr) (H H' : Hp) : Prop := ∀ b o, b ≠ d → b ≠ c → H b = some o → H' b = some o
theorem But.refl (d c : Addr) (H : Hp) : But d c H H := fun _ _ _ _ e => e
theorem But.trans {d c : Addr} {H H1 H2 : Hp} (a : But d c H H1) (b : But d c H1 H2) : But d c H H2 := fun x o h1 h2 e => b x o h1 h2 (a x o h1 h2 e)
theorem But.same {d c : Addr} {H H' : Hp} (s : Same H H') : But d c H H' := fun b o _ _ e => s b o e
theorem Same.upd {H : Hp} {p : Addr} {o : HO} (hp : H p = none) : Same H (L2.upd H p o) := fun b u e => by
  rw [upd_ne (ne_of_none e hp)]; exact e
theorem But.new {d c : Addr} {H H' : Hp} (s : But d c H H') {p : Addr} {o : HO} (hp : H' p = none) : But d c H (L2.upd H' p o) := fun b u h1 h2 e => by
  have e' := s b u h1 h2 e
  rw [upd_ne (ne_of_none e' hp)]
  exact e'

/-- what stays whatever the deck does -/
def Stay (d c : Addr) (φ : Hp → Prop) (H : Hp) : Prop := ∀ H', But d c H H' → φ H'
theorem Stay.now {d c : Addr} {φ : Hp → Prop} {H : Hp} (h : Stay d c φ H) : φ H := h H (But.refl d c H)
theorem Stay.go {d c : Addr} {φ : Hp → Prop} {H H' : Hp} (h : Stay d c φ H) (k : But d c H H') : Stay d c φ H' := fun _ k' => h _ (k.trans k')
theorem Stay.all {d c : Addr} {φ : Hp → Prop} {H : Hp} (h : ∀ H', φ H') : Stay d c φ H := fun H' _ => h H'
theorem Stay.mono {d c : Addr} {φ ψ : Hp → Prop} {H : Hp} (h : Stay d c φ H) (i : ∀ H', φ H' → ψ H') : Stay d c ψ H := fun H' k => i _ (h H' k)

/-- the deck at d, its cells at c, behind n draws -/
def DeckAt (H : Hp) (d c : Addr) (n : Nat) : Prop := c ≠ d ∧ ∃ (b : Int) (cells : List Int), H d = some (.lst [.ref c, .int b, .int n]) ∧ H c = some (.lst (cells.map V.int)) ∧ cells.length ≤ 63
theorem DeckAt.same {H H' : Hp} {d c : Addr} {n : Nat} (D : DeckAt H d c n) (s : Same H H') : DeckAt H' d c n := by
  obtain ⟨h, b, cells, h1, h2, h3⟩ := D
  exact ⟨h, b, cells, s _ _ h1, s _ _ h2, h3⟩
theorem DeckAt.ned {H : Hp} {d c p : Addr} {n : Nat} (D : DeckAt H d c n) (hp : H p = none) : p ≠ d ∧ p ≠ c := by
  obtain ⟨h, b, cells, h1, h2, h3⟩ := D
  exact ⟨fun e => (by rw [e, h1] at hp; cases hp), fun e => (by rw [e, h2] at hp; cases hp)⟩
theorem DeckAt.new {H : Hp} {d c p : Addr} {n : Nat} {o : HO} (D : DeckAt H d c n) (hp : H p = none) : DeckAt (upd H p o) d c n := D.same (Same.upd hp)
theorem DeckAt.set {H : Hp} {d c p : Addr} {n : Nat} {o : HO} (D : DeckAt H d c n) (h1 : p ≠ d) (h2 : p ≠ c) : DeckAt (upd H p o) d c n := by
  obtain ⟨h, b, cells, e1, e2, e3⟩ := D
  exact ⟨h, b, cells, by rw [upd_ne (Ne.symm h1)]; exact e1, by rw [upd_ne (Ne.symm h2)]; exact e2, e3⟩

/-- a draw below bd: any number there is -/
def spDraw : Sp := fun vs H Q _ => ∃ (d c : Addr) (n : Nat) (bd : Int), vs = [.ref d, .int bd] ∧ 0 < bd ∧ bd < 1073741824 ∧ n < 1000000 ∧ DeckAt H d c n ∧
  ∀ (H' : Hp) (r : Int), 0 ≤ r → r < bd → DeckAt H' d c (n + 1) → But d c H H' → Q (.int r) H'

/-- an item of a list or a tuple, or a sign of a text -/
inductive Some1 (K : PySem.W.Frag) (H : Hp) : V → List V → Prop
  | lst {a : Addr} {xs : List V} (h : SqL K H a xs) : Some1 K H (.ref a) xs
  | txt (z : Str) (h : z.length ≤ sizeLine) : Some1 K H (.str z) ((letts z).map V.str)
def spPick (K : PySem.W.Frag) : Sp := fun vs H Q _ => ∃ (d c : Addr) (n : Nat) (x : V) (xs : List V), vs = [.ref d, x] ∧ xs ≠ [] ∧ xs.length < 1073741824 ∧ n < 1000000 ∧ DeckAt H d c n ∧ Stay d c (fun H' => Some1 K H' x xs) H ∧
  ∀ (H' : Hp) (y : V), y ∈ xs → DeckAt H' d c (n + 1) → But d c H H' → Q y H'
end Ami

set_option Elab.async false
set_option linter.all false
set_option maxRecDepth 100000
set_option maxHeartbeats 2000000
namespace Ami
open PySem PySem.Spec PyProof.Rows L2

/-! ### rows of flat values as data -/
def fD : V → PyData
  | .bl b => .bool b
  | .int i => .int i
  | .str x => .str x
  | _ => .none
/-- None, a bool, an int, a text that can be laid -/
def okF : V → Bool
  | .non => true
  | .bl _ => true
  | .int _ => true
  | .str x => PyData.strOk x
  | _ => false
theorem dp_flat {K : PySem.W.Frag} {H : Hp} : ∀ {v : V}, okF v = true → Dp K H v (fD v)
  | .non, _ => .non
  | .bl b, _ => .bl b
  | .int i, _ => .int i
  | .str x, _ => .str x
theorem dpAll_flat {K : PySem.W.Frag} {H : Hp} : ∀ {xs : List V}, xs.all okF = true → DpAll K H xs (xs.map fD)
  | [], _ => .nil
  | v :: xs, h => by
    rw [List.all_cons, Bool.and_eq_true] at h
    exact .cons (dp_flat h.1) (dpAll_flat h.2)
theorem dq_flat {K : PySem.W.Frag} {H : Hp} : ∀ {v : V}, okF v = true → Dq K H v (fD v)
  | .non, _ => .non
  | .bl b, _ => .bl b
  | .int i, _ => .int i
  | .str x, _ => .str x
theorem dqAll_flat {K : PySem.W.Frag} {H : Hp} : ∀ {xs : List V}, xs.all okF = true → DqAll K H xs (xs.map fD)
  | [], _ => .nil
  | v :: xs, h => by
    rw [List.all_cons, Bool.and_eq_true] at h
    exact .cons (dq_flat h.1) (dqAll_flat h.2)
theorem canLay_flat : ∀ {v : V}, okF v = true → (fD v).canLay0 = true
  | .non, _ => rfl
  | .bl _, _ => rfl
  | .int _, _ => rfl
  | .str x, h => h
theorem canLayAll_flat : ∀ {xs : List V}, xs.all okF = true → PyData.canLayAll0 (xs.map fD) = true
  | [], _ => rfl
  | v :: xs, h => by
    rw [List.all_cons, Bool.and_eq_true] at h
    show ((fD v).canLay0 && PyData.canLayAll0 (xs.map fD)) = true
    rw [canLay_flat h.1, canLayAll_flat h.2]; rfl
theorem depth_flat : ∀ v : V, (fD v).depth = 0
  | .non => rfl
  | .bl _ => rfl
  | .int _ => rfl
  | .str _ => rfl
  | .byt _ => rfl
  | .flt _ => rfl
  | .ref _ => rfl
  | .ty _ => rfl
theorem depthAll_flat : ∀ xs : List V, PyData.depthAll (xs.map fD) = 0
  | [] => rfl
  | v :: xs => by
    show max (fD v).depth (PyData.depthAll (xs.map fD)) = 0
    rw [depth_flat, depthAll_flat]; rfl
theorem shaped_list {xs : List V} (h : xs.all okF = true) : SeqAt.shaped (.list (xs.map fD)) = true := by
  show ((PyData.list (xs.map fD)).canLay0 && decide ((PyData.list (xs.map fD)).depth ≤ 64)) = true
  have e1 : (PyData.list (xs.map fD)).canLay0 = true := canLayAll_flat h
  have e2 : (PyData.list (xs.map fD)).depth = 1 := by
    show PyData.depthAll (xs.map fD) + 1 = 1
    rw [depthAll_flat]
  rw [e1, e2]; rfl
theorem shaped_tup {xs : List V} (h : xs.all okF = true) : SeqAt.shaped (.tuple (xs.map fD)) = true := by
  show ((PyData.tuple (xs.map fD)).canLay0 && decide ((PyData.tuple (xs.map fD)).depth ≤ 64)) = true
  have e1 : (PyData.tuple (xs.map fD)).canLay0 = true := canLayAll_flat h
  have e2 : (PyData.tuple (xs.map fD)).depth = 1 := by
    show PyData.depthAll (xs.map fD) + 1 = 1
    rw [depthAll_flat]
  rw [e1, e2]; rfl
theorem eqvAll_nil : ∀ xs : List V, PyData.eqvAll (xs.map fD) [] = xs.isEmpty
  | [] => rfl
  | _ :: _ => rfl
theorem all_ints (ns : List Int) : (ns.map V.int).all okF = true := by
  rw [List.all_eq_true]
  intro v hv
  obtain ⟨n, _, rfl⟩ := List.mem_map.mp hv
  rfl
theorem all_bls (bs : List Bool) : (bs.map V.bl).all okF = true := by
  rw [List.all_eq_true]
  intro v hv
  obtain ⟨n, _, rfl⟩ := List.mem_map.mp hv
  rfl

/-- xs != [], xs == [] over flat items: the answer -/
theorem ne_nil {K : PySem.W.Frag} {H : Hp} {a p : Addr} {xs : List V} {Q : VK} (ha : SqL K H a xs) (hp : SqL K H p []) (h : xs.all okF = true) (q : Q (.bl (!xs.isEmpty)) H) : rNeD K (.ref a) (.ref p) H Q :=
  ⟨_, _, .lst ha (dpAll_flat h), .lst hp .nil, shaped_list h, rfl, by
    have e : PyData.eqv (.list (xs.map fD)) (.list []) = xs.isEmpty := eqvAll_nil xs
    rw [e]; exact q⟩
theorem eq_nil {K : PySem.W.Frag} {H : Hp} {a p : Addr} {xs : List V} {Q : VK} (ha : SqL K H a xs) (hp : SqL K H p []) (h : xs.all okF = true) (q : Q (.bl xs.isEmpty) H) : rEqD K (.ref a) (.ref p) H Q :=
  ⟨_, _, .lst ha (dpAll_flat h), .lst hp .nil, shaped_list h, rfl, by
    have e : PyData.eqv (.list (xs.map fD)) (.list []) = xs.isEmpty := eqvAll_nil xs
    rw [e]; exact q⟩
theorem pow18 : CPow 10 18 := ⟨by decide, by decide, by decide⟩
theorem pow39 : CPow 10 39 := ⟨by decide, by decide, by decide⟩
theorem mod_range (a : Int) {m : Int} (h : 0 < m) : 0 ≤ a % m ∧ a % m < m := ⟨Int.emod_nonneg _ (by omega), Int.emod_lt_of_pos _ h⟩
end Ami

set_option Elab.async false
set_option linter.all false
set_option maxRecDepth 100000
set_option maxHeartbeats 2000000
namespace Ami
open PySem PySem.Spec PyProof.Rows L2

/-! ### texts of signs, sorted and joined -/
theorem joinOnes (cs : List Nat) : Txt.join ⟨#[]⟩ (cs.map one) = ⟨cs.toArray⟩ := by
  have h := join_nil_signs ⟨cs.toArray⟩
  have e : PyProof.Rows.signs ⟨cs.toArray⟩ = cs.map one := rfl
  rw [e] at h
  show Builtin.Str.glued ⟨#[]⟩ (cs.map one) = _
  rw [StrLaws.glued_eq_join]
  exact h
theorem eraseMap {α β : Type} (f : α → β) : ∀ (l : List α) (n : Nat), (l.map f).eraseIdx n = (l.eraseIdx n).map f
  | [], _ => rfl
  | _ :: _, 0 => rfl
  | a :: l, n + 1 => by
    show f a :: (l.map f).eraseIdx n = f a :: (l.eraseIdx n).map f
    rw [eraseMap f l n]
theorem one_inj {a b : Nat} (h : one a = one b) : a = b := by
  have e : [a] = [b] := congrArg (fun y : Str => y.cps.toList) h
  exact (List.cons.inj e).1
theorem unmap_ones {ys : List Str} {cs : List Nat} (h : ys.Perm (cs.map one)) : ∃ ds : List Nat, ys = ds.map one ∧ ds.Perm cs := by
  have e : ys = (ys.map fun y => y.cps.getD 0 0).map one := by
    rw [List.map_map]
    conv => lhs; rw [← List.map_id ys]
    refine List.map_congr_left fun y hy => ?_
    obtain ⟨c, _, rfl⟩ := List.mem_map.mp (h.mem_iff.mp hy)
    rfl
  refine ⟨ys.map fun y => y.cps.getD 0 0, e, ?_⟩
  have q := h.map fun y => y.cps.getD 0 0
  rw [List.map_map] at q
  have e2 : cs.map ((fun y : Str => y.cps.getD 0 0) ∘ one) = cs := by
    conv => rhs; rw [← List.map_id cs]
    exact List.map_congr_left fun _ _ => rfl
  rw [e2] at q
  exact q
theorem rising_ones : ∀ (p : Nat) (cs : List Nat), risingS (one p) (cs.map one) = true → (p :: cs).Pairwise (· ≤ ·)
  | p, [], _ => List.pairwise_singleton _ _
  | p, x :: r, h => by
    have h' : (!ltCps [x] [p] && risingS (one x) (r.map one)) = true := h
    rw [Bool.and_eq_true] at h'
    have ih := rising_ones x r h'.2
    have hx : p ≤ x := by
      have e : ltCps [x] [p] = false := by simpa using h'.1
      have e2 : (decide (x < p) || (x == p && false)) = false := e
      simp at e2
      omega
    refine List.pairwise_cons.mpr ⟨fun y hy => ?_, ih⟩
    rcases List.mem_cons.mp hy with rfl | hy
    · exact hx
    · exact Nat.le_trans hx ((List.pairwise_cons.mp ih).1 y hy)
theorem sorted_ones : ∀ {cs : List Nat}, sortedS (cs.map one) = true → cs.Pairwise (· ≤ ·)
  | [], _ => .nil
  | x :: r, h => rising_ones x r h
theorem lt_of_le {cs : List Nat} (h : cs.Pairwise (· ≤ ·)) (nd : cs.Nodup) : cs.Pairwise (· < ·) := by
  induction cs with
  | nil => exact .nil
  | cons x r ih =>
    obtain ⟨h1, h2⟩ := List.pairwise_cons.mp h
    obtain ⟨n1, n2⟩ := List.nodup_cons.mp nd
    refine List.pairwise_cons.mpr ⟨fun y hy => ?_, ih h2 n2⟩
    have := h1 y hy
    have : x ≠ y := fun e => n1 (e ▸ hy)
    omega
/-- two rising rows with the same members are one -/
theorem rows_eq {xs ys : List Nat} (hx : xs.Pairwise (· < ·)) (hy : ys.Pairwise (· < ·)) (h : ∀ c, c ∈ xs ↔ c ∈ ys) : xs = ys := by
  have nx : xs.Nodup := hx.imp fun a => Nat.ne_of_lt a
  have ny : ys.Nodup := hy.imp fun a => Nat.ne_of_lt a
  have p : xs.Perm ys := (List.perm_ext_iff_of_nodup nx ny).mpr h
  exact p.eq_of_pairwise (fun a b _ _ h1 h2 => absurd (Nat.lt_trans h1 h2) (Nat.lt_irrefl _)) hx hy

/-- all signs below 128 -/
def Asc (z : Str) : Prop := ∀ c ∈ z.cps.toList, c < 128
theorem Asc.mem {z y : Str} (h : Asc z) (k : ∀ c ∈ y.cps.toList, c ∈ z.cps.toList) : Asc y := fun c hc => h c (k c hc)
theorem Asc.append {z y : Str} (h : Asc z) (k : Asc y) : Asc (z ++ y) := fun c hc => by
  have e : (z ++ y).cps.toList = z.cps.toList ++ y.cps.toList := Array.toList_append
  rw [e] at hc
  exact (List.mem_append.mp hc).elim (h c) (k c)
theorem Asc.cut {z : Str} (h : Asc z) (lo hi : Option Int) : Asc (cutS z lo hi) := h.mem fun c hc => List.mem_of_mem_drop (List.mem_of_mem_take hc)
theorem Asc.rev {z : Str} (h : Asc z) : Asc (revS z) := h.mem fun c hc => List.mem_reverse.mp hc
theorem Asc.rep {z : Str} (h : Asc z) (n : Nat) : Asc (repS z n) := h.mem fun c hc => repS_mem hc
theorem Asc.ok {z : Str} (h : Asc z) : PyData.strOk z = true := by
  show (z.cps.all (· < 0x110000)) = true
  rw [← Array.all_toList, List.all_eq_true]
  intro c hc
  have := h c hc
  exact decide_eq_true (by omega)
theorem Asc.repr {z : Str} (h : Asc z) (hl : z.length ≤ 100000) : (reprText z).length ≤ sizeLine := by
  have := StrLaws.reprText_len z fun c hc => Nat.lt_of_lt_of_le (h c hc) (by decide)
  rw [sizeLine_eq]
  omega
theorem append_length (z y : Str) : (z ++ y).length = z.length + y.length := Str.length_append z y

/-- letters as the laws draw them: two to so many of ten letters, ascending -/
def pool : List Nat := [97, 98, 99, 100, 101, 104, 109, 120, 121, 122]
def Sgn (top : Nat) (z : Str) : Prop := ∃ cs : List Nat, z = ⟨cs.toArray⟩ ∧ cs.Pairwise (· < ·) ∧ 2 ≤ cs.length ∧ cs.length ≤ top ∧ ∀ c ∈ cs, c ∈ pool
theorem Sgn.len {top : Nat} {z : Str} (h : Sgn top z) : 2 ≤ z.length ∧ z.length ≤ top := by
  obtain ⟨cs, rfl, _, h1, h2, _⟩ := h
  have e : (⟨cs.toArray⟩ : Str).length = cs.length := by simp [Str.length]
  omega
theorem Sgn.asc {top : Nat} {z : Str} (h : Sgn top z) : Asc z := by
  obtain ⟨cs, rfl, _, _, _, h3⟩ := h
  intro c hc
  have := h3 c hc
  simp [pool] at this
  omega
/-- letters drawn, as a promise -/
def spSigns : Sp := fun vs H Q _ => ∃ (d c : Addr) (n top : Nat), vs = [.ref d, .int top] ∧ 2 ≤ top ∧ top ≤ 10 ∧ n + 20 < 1000000 ∧ DeckAt H d c n ∧
  ∀ (H' : Hp) (z : Str) (n' : Nat), Sgn top z → n' ≤ n + 11 → DeckAt H' d c n' → But d c H H' → Q (.str z) H'
end Ami

set_option Elab.async false
set_option linter.all false
set_option maxRecDepth 100000
set_option maxHeartbeats 2000000
namespace Ami
open PySem PySem.Spec PyProof.Rows L2
theorem Same.seqT {K : PySem.W.Frag} {H H' : Hp} {a : Addr} {xs : List V} (e : Same H H') (h : SqT K H a xs) : SqT K H' a xs := by
  rcases h with (h | ⟨o, h⟩) | h
  · exact .inl (.inl (e _ _ h))
  · exact .inl (.inr ⟨o, e _ _ h⟩)
  · exact .inr h
theorem TyOf.same {K : PySem.W.Frag} {H H' : Hp} (e : Same H H') {x : V} {t : Value} (h : TyOf K H x t) : TyOf K H' x t := by
  cases h with
  | non => exact .non
  | bl b => exact .bl b
  | int i => exact .int i
  | str z => exact .str z
  | flt z => exact .flt z
  | lst h => exact .lst (e _ _ h)
  | frz h => exact .frz (e _ _ h)
  | tup h => exact .tup (e _ _ h)
  | dK h => exact .dK (e _ _ h)
  | dT h => exact .dT (e _ _ h)
  | ins h cl ha hn htk hm => exact .ins (e _ _ h) cl ha hn htk hm
theorem TyX.same {K : PySem.W.Frag} {H H' : Hp} (e : Same H H') {x : V} {t : Value} (h : TyX K H x t) : TyX K H' x t := by
  cases h with
  | base h => exact .base (TyOf.same e h)
  | byt b => exact .byt b
  | set h => exact .set (e _ _ h)
  | kList h c => exact .kList h c
  | kTuple h c => exact .kTuple h c
  | kDict h c => exact .kDict h c
  | fTuple h => exact .fTuple (e _ _ h)
  | fDict h => exact .fDict (e _ _ h)
theorem Dq.up {K : PySem.W.Frag} {H H' : Hp} (e : Same H H') {v : V} {d : PyData} (h : Dq K H v d) : Dq K H' v d :=
  h.same fun a => ⟨fun _ q => e.seq q, fun _ q => Same.seqT e q, fun _ q => e _ _ q⟩
/-- a row of two answers, as data -/
def D2b (b : Bool) : PyData := .list [.bool b, .bool b]
theorem d2_len (b : Bool) : (D2b b).shown.length ≤ sizeLine := by cases b <;> decide +kernel
theorem d2_at {K : PySem.W.Frag} {H : Hp} {a : Addr} {b : Bool} (h : H a = some (.lst [.bl b, .bl b])) : Dq K H (.ref a) (D2b b) := .lst (SqL.of h) (.cons (.bl b) (.cons (.bl b) .nil))
/-- by keyword, one parameter -/
def g1 {α : Type} : List α → List α → List α
  | [], [t] => [t]
  | _, _ => []
/-- by keywords, two parameters, the second one first -/
def g2 {α : Type} : List α → List α → List α
  | [], [t, l] => [l, t]
  | _, _ => []
theorem g1_rel {vs : List V} {us : List Value} {zs : List V} {ws : List Value} (r : Vals vs us) (rz : Vals zs ws) : Vals (g1 vs zs) (g1 us ws) := by
  cases r with
  | cons a b => exact .nil
  | nil =>
    cases rz with
    | nil => exact .nil
    | cons a b =>
      cases b with
      | nil => exact .cons a .nil
      | cons _ _ => exact .nil
theorem g2_rel {vs : List V} {us : List Value} {zs : List V} {ws : List Value} (r : Vals vs us) (rz : Vals zs ws) : Vals (g2 vs zs) (g2 us ws) := by
  cases r with
  | cons a b => exact .nil
  | nil =>
    cases rz with
    | nil => exact .nil
    | cons a b =>
      cases b with
      | nil => exact .nil
      | cons a2 b2 =>
        cases b2 with
        | nil => exact .cons a2 (.cons a .nil)
        | cons _ _ => exact .nil
end Ami

set_option Elab.async false
set_option linter.all false
set_option maxRecDepth 100000
set_option maxHeartbeats 2000000
namespace Ami
open PySem PySem.Spec PyProof.Rows L2
theorem leaves_texts : ∀ {ss : List Str}, (∀ z ∈ ss, Asc z) → PyData.leavesShortAll 8 ((ss.map V.str).map fD) = true
  | [], _ => rfl
  | z :: ss, h => by
    show ((z.cps.toList.all fun c => decide (c < 16 ^ 8)) && PyData.leavesShortAll 8 ((ss.map V.str).map fD)) = true
    rw [Bool.and_eq_true]
    refine ⟨List.all_eq_true.mpr fun c hc => decide_eq_true (Nat.lt_of_lt_of_le (h z List.mem_cons_self c hc) (by decide)), leaves_texts fun y hy => h y (List.mem_cons_of_mem _ hy)⟩
theorem weight_texts : ∀ ss : List Str, PyData.weightAll ((ss.map V.str).map fD) = (ss.map (fun z => z.length)).sum + ss.length
  | [] => rfl
  | z :: ss => by
    show z.cps.size + 1 + PyData.weightAll ((ss.map V.str).map fD) = z.length + (ss.map (fun z => z.length)).sum + (ss.length + 1)
    rw [weight_texts ss]
    unfold Str.length
    omega
theorem okF_texts {ss : List Str} (h : ∀ z ∈ ss, Asc z) : (ss.map V.str).all okF = true := by
  rw [List.all_eq_true]
  intro v hv
  obtain ⟨z, hz, rfl⟩ := List.mem_map.mp hv
  exact (h z hz).ok
theorem noDict_texts : ∀ ss : List Str, PyData.hasDictAll ((ss.map V.str).map fD) = false
  | [] => rfl
  | z :: ss => by show (false || PyData.hasDictAll ((ss.map V.str).map fD)) = false; rw [noDict_texts ss]; rfl
theorem showable_texts : ∀ ss : List Str, PyData.showableAll ((ss.map V.str).map fD) = true
  | [] => rfl
  | z :: ss => by show (true && PyData.showableAll ((ss.map V.str).map fD)) = true; rw [showable_texts ss]; rfl
theorem shownL_texts {ss : List Str} (h : ∀ z ∈ ss, Asc z) (hl : (ss.map (fun z => z.length)).sum + ss.length ≤ 1000000) : (PyData.list ((ss.map V.str).map fD)).shown.length ≤ sizeLine := by
  have q := PyData.shown_le 8 (Nat.le_refl _) (.list ((ss.map V.str).map fD)) (leaves_texts h)
  have e : PyData.weight (.list ((ss.map V.str).map fD)) = (ss.map (fun z => z.length)).sum + ss.length := weight_texts ss
  rw [e] at q
  rw [sizeLine_eq]
  omega
theorem shownT_texts {ss : List Str} (h : ∀ z ∈ ss, Asc z) (hl : (ss.map (fun z => z.length)).sum + ss.length ≤ 1000000) : (PyData.tuple ((ss.map V.str).map fD)).shown.length ≤ sizeLine := by
  have q := PyData.shown_le 8 (Nat.le_refl _) (.tuple ((ss.map V.str).map fD)) (leaves_texts h)
  have e : PyData.weight (.tuple ((ss.map V.str).map fD)) = (ss.map (fun z => z.length)).sum + ss.length := weight_texts ss
  rw [e] at q
  rw [sizeLine_eq]
  omega
theorem ones_sum (z : Str) : ((letts z).map (fun y => y.length)).sum = z.length := by
  unfold letts
  rw [List.map_map]
  have e : (fun y : Str => y.length) ∘ one = fun _ => 1 := rfl
  rw [e, List.map_const', List.sum_replicate_nat]
  show z.cps.toList.length * 1 = z.cps.size
  rw [Array.length_toList]; omega
theorem letts_asc {z : Str} (h : Asc z) : ∀ y ∈ letts z, Asc y := by
  intro y hy
  obtain ⟨c, hc, rfl⟩ := List.mem_map.mp hy
  intro d hd
  have : d = c := by simpa [one] using hd
  rw [this]
  exact h c hc
end Ami

set_option Elab.async false
set_option linter.all false
set_option maxRecDepth 100000
set_option maxHeartbeats 2000000
namespace K01
open PySem PySem.Spec PyProof.Rows L2 Ami
def top (i : Nat) : Stmt := PySem.Challenge.pw_amidread_k01_letters_and_words_of_any_va.main.body.getD i (.Pass ⟨0, 0, 0, 0⟩)
abbrev sLetters : Stmt := top 4
abbrev sWord : Stmt := top 5
abbrev sDeck : Stmt := top 7
abbrev sDraw : Stmt := top 8
abbrev sPick : Stmt := top 9
abbrev sSigns : Stmt := top 10
abbrev sIsSigns : Stmt := top 11
abbrev sIsRow : Stmt := top 12
abbrev sOdd : Stmt := top 13
abbrev sBent : Stmt := top 14
abbrev sLaw : Stmt := top 15
/-- the names of the built-ins that no one has taken -/
structure Blt (mg : Str → Option Value) : Prop where
  len : mg "len" = none
  int : mg "int" = none
  list : mg "list" = none
  range : mg "range" = none
  sorted : mg "sorted" = none
  set : mg "set" = none
  all : mg "all" = none
  isi : mg "isinstance" = none
  str : mg "str" = none
  repr : mg "repr" = none
section
variable {P : Program} {w : World} {K : PySem.W.Frag} {mg : Str → Option Value} {base : Heap}
theorem scDraw : FnScope ["_law_deck_here", "_law_bound", "_law_mixed", "_law_cell"] ["_law_deck_here", "_law_bound"] (defScope sDraw) := ⟨rfl, rfl, rfl, by decide +kernel, rfl, by decide +kernel, by decide +kernel⟩
theorem ok_draw {f : Addr} {fd : FuncData} (F : Fun K "_law_draw" "_law_draw" sDraw f fd) (T : Blt mg) : FnOk P w K mg base CX0 1 f fd ["_law_deck_here", "_law_bound"] spDraw := by
  refine F.ok scDraw (fun vs H Q E h => ?_) (fun cdv A outer s H vs Q E hr h => ?_)
  · obtain ⟨d, c, n, bd, rfl, _⟩ := h
    rfl
  · obtain ⟨d, c, n, bd, rfl, hb0, hb1, hn, ⟨hcd, b, cells, hd, hc, hlen⟩, k⟩ := h
    have hu := hr.units
    refine ⟨_, pss_cons (ps_asg (pe_op op_add (pe_ix ix_list (pv 0) pe_int (fun _ _ => rfl)) pe_int) (pg_sub (pv 0) pe_int set_list))
      (pss_cons (ps_set (i := 2) scDraw.nd rfl (Or.inl rfl) (pe_op op_add (pe_ix ix_list (pv 0) pe_int (fun _ _ => rfl)) (pe_op op_mul (pe_op op_mul pe_int (pe_ix ix_list (pv 0) pe_int (fun _ _ => rfl))) (pe_ix ix_list (pv 0) pe_int (fun _ _ => rfl)))))
      (C8.pss_cut (ps_if (pt_cmpR (op_neD hu) (pe_ix ix_list (pv 0) pe_int (fun _ _ => rfl)) (pe_lst pa_nil) (nomark _))
        (pss_cons (ps_set (i := 3) scDraw.nd rfl (Or.inl rfl) (pe_bm0 PySem.F.plainAttrs_list PySem.F.slot_list_pop PySem.F.type_list_pop mt_pop (pe_ix ix_list (pv 0) pe_int (fun _ _ => rfl))))
        (pss_cons (ps_if (pt_cmpR op_ge (pv 3) (pe_op op_pow pe_int pe_int) (nomark _))
          (pss_cons (ps_expr (pe_bm PySem.F.plainAttrs_list PySem.F.slot_list_append PySem.F.type_list_append mt_append (pe_ix ix_list (pv 0) pe_int (fun _ _ => rfl)) (pa_cons (pe_op op_fdiv (pv 3) (pv 1)) pa_nil)))
          (pss_one (ps_ret (pe_op op_mod (pe_callTy call_int1 (by rfl) T.int (by decide +kernel) (pa_cons (pv 3) pa_nil)) (pv 1)))))
          pss_nil)
        (pss_one (ps_set (i := 2) scDraw.nd rfl (Or.inl rfl) (pe_op op_add (pv 2) (pe_callTy call_int1 (by rfl) T.int (by decide +kernel) (pa_cons (pv 3) pa_nil))))))) pss_nil)
      (pss_cons (ps_set (i := 2) scDraw.nd rfl (Or.inl rfl) (pe_op op_mod (pe_op op_mul (pe_callTy call_int1 (by rfl) T.int (by decide +kernel) (pa_cons (pe_op op_add (pe_op op_mod (pe_callTy call_int1 (by rfl) T.int (by decide +kernel) (pa_cons (pv 2) pa_nil)) pe_int) pe_int) pa_nil)) pe_int) pe_int))
      (pss_cons (ps_set (i := 2) scDraw.nd rfl (Or.inl rfl) (pe_op op_mod (pe_callTy call_int1 (by rfl) T.int (by decide +kernel) (pa_cons (pe_op op_add (pe_op op_add (pe_op op_mul (pv 2) (pv 2)) (pe_op op_mul pe_int (pe_ix ix_list (pv 0) pe_int (fun _ _ => rfl)))) pe_int) pa_nil)) pe_int))
      (pss_one (ps_ret (pe_op op_mod (pe_op op_fdiv (pe_op op_mod (pe_callTy call_int1 (by rfl) T.int (by decide +kernel) (pa_cons (pe_op op_mul (pv 2) pe_int) pa_nil)) pe_int) pe_int) (pv 1)))))))), ?_⟩
    have hn1 : ((n : Int) + 1) = ((n + 1 : Nat) : Int) := by omega
    refine ⟨_, rfl, d, _, 2, _, rfl, rfl, SqL.of hd, rfl, _, _, rfl, rfl, _, rfl, d, _, 2, 2, rfl, rfl, hd, rfl, ?_⟩
    have hd1 : (upd H d (.lst ([V.ref c, V.int b, V.int (n : Int)].set 2 (V.int ((n : Int) + 1))))) d = some (.lst [.ref c, .int b, .int (n + 1 : Nat)]) := by rw [upd_same, ← hn1]; rfl
    have hc1 : (upd H d (.lst ([V.ref c, V.int b, V.int (n : Int)].set 2 (V.int ((n : Int) + 1))))) c = some (.lst (cells.map V.int)) := by rw [upd_ne hcd]; exact hc
    have b1 : But d c H (upd H d (.lst ([V.ref c, V.int b, V.int (n : Int)].set 2 (V.int ((n : Int) + 1))))) := fun x o h1 _ e => by rw [upd_ne h1]; exact e
    revert hd1 hc1 b1
    generalize upd H d (.lst ([V.ref c, V.int b, V.int (n : Int)].set 2 (V.int ((n : Int) + 1)))) = H1
    intro hd1 hc1 b1
    have m1 : -(2 ^ 64) < (40093 : Int) ∧ (40093 : Int) < 2 ^ 64 := by decide
    refine ⟨_, rfl, d, _, 1, _, rfl, rfl, SqL.of hd1, rfl, _, rfl, d, _, 2, _, rfl, rfl, SqL.of hd1, rfl, _, _, rfl, rfl, .inl m1, _, rfl, d, _, 2, _, rfl, rfl, SqL.of hd1, rfl, _, _, rfl, rfl, .inl (by omega), _, _, rfl, rfl, ?_⟩
    refine ⟨fun σ H3 => ∃ (m : Int) (cell : Option V), σ = [some (.ref d), some (.int bd), some (.int m), cell] ∧ DeckAt H3 d c (n + 1) ∧ But d c H H3, ?_, ?_⟩
    · refine ⟨_, rfl, d, _, 0, _, rfl, rfl, SqL.of hd1, rfl, Nat.zero_le _, fun p hp => ?_⟩
      have npc : c ≠ p := ne_of_none hc1 hp
      have npd : d ≠ p := ne_of_none hd1 hp
      have hd2 : (upd H1 p (.lst [])) d = some (.lst [.ref c, .int b, .int (n + 1 : Nat)]) := by rw [upd_ne npd]; exact hd1
      have hc2 : (upd H1 p (.lst [])) c = some (.lst (cells.map V.int)) := by rw [upd_ne npc]; exact hc1
      have hp2 : (upd H1 p (.lst [])) p = some (.lst []) := upd_same
      have b2 : But d c H (upd H1 p (.lst [])) := b1.new hp
      revert hd2 hc2 hp2 b2
      generalize upd H1 p (.lst []) = H2
      intro hd2 hc2 hp2 b2
      refine ne_nil (SqL.of hc2) (SqL.of hp2) (all_ints _) ⟨_, rfl, ?_⟩
      by_cases hce : cells = []
      · subst hce
        refine iteF ?_
        exact ⟨_, _, rfl, ⟨hcd, b, [], hd2, hc2, by decide⟩, b2⟩
      · have hne : (!(cells.map V.int).isEmpty) = true := by
          cases cells with
          | nil => exact absurd rfl hce
          | cons a r => rfl
        rw [hne]
        refine iteT ?_
        obtain ⟨z, hz⟩ : ∃ z : Int, cells[cells.length - 1]? = some z := by
          have : cells.length - 1 < cells.length := by
            cases cells with
            | nil => exact absurd rfl hce
            | cons a r => simp
          exact ⟨_, List.getElem?_eq_getElem this⟩
        have hz' : (cells.map V.int)[(cells.map V.int).length - 1]? = some (V.int z) := by
          rw [List.length_map, List.getElem?_map, hz]; rfl
        refine ⟨_, rfl, d, _, 0, _, rfl, rfl, SqL.of hd2, rfl, .inl ⟨rfl, _, SqL.of hc2⟩, c, _, _, rfl, rfl, hc2, hz', ?_⟩
        have hdl : (cells.map V.int).dropLast = cells.dropLast.map V.int := (List.map_dropLast ..).symm
        have hd3 : (upd H2 c (.lst (cells.map V.int).dropLast)) d = some (.lst [.ref c, .int b, .int (n + 1 : Nat)]) := by rw [upd_ne (Ne.symm hcd)]; exact hd2
        have hc3 : (upd H2 c (.lst (cells.map V.int).dropLast)) c = some (.lst (cells.dropLast.map V.int)) := by rw [upd_same, hdl]
        have b3 : But d c H (upd H2 c (.lst (cells.map V.int).dropLast)) := fun x o h1 h2 e => by rw [upd_ne h2]; exact b2 x o h1 h2 e
        revert hd3 hc3 b3
        generalize upd H2 c (.lst (cells.map V.int).dropLast) = H3
        intro hd3 hc3 b3
        have hl3 : cells.dropLast.length ≤ 62 := by rw [List.length_dropLast]; omega
        refine ⟨_, rfl, _, _, rfl, rfl, pow18, _, _, rfl, rfl, _, rfl, ?_⟩
        refine ite2 (fun _ => ?_) (fun _ => ?_)
        · refine ⟨_, rfl, d, _, 0, _, rfl, rfl, SqL.of hd3, rfl, .inl ⟨rfl, _, SqL.of hc3⟩, _, rfl, _, rfl, _, _, rfl, rfl, ⟨hb0, hb1⟩, c, _, _, rfl, rfl, hc3, ?_, ?_⟩
          · rw [List.length_map]; exact Nat.lt_of_le_of_lt hl3 (by decide)
          · refine ⟨_, rfl, .inl ⟨_, rfl, _, rfl, _, _, rfl, rfl, hb0, ?_⟩⟩
            refine k _ _ (Int.emod_nonneg _ (by omega)) (Int.emod_lt_of_pos _ hb0) ⟨hcd, b, cells.dropLast ++ [z / bd], ?_, ?_, ?_⟩ fun x o h1 h2 e => ?_
            · rw [upd_ne (Ne.symm hcd)]; exact hd3
            · rw [upd_same, List.map_append]; rfl
            · rw [List.length_append, List.length_singleton]; omega
            · rw [upd_ne h2]; exact b3 x o h1 h2 e
        · refine ⟨_, rfl, _, rfl, .inl ⟨_, rfl, _, _, rfl, rfl, ?_⟩⟩
          exact ⟨_, _, rfl, ⟨hcd, b, cells.dropLast, hd3, hc3, by omega⟩, b3⟩
    · rintro σ H3 ⟨m, cell, rfl, ⟨_, bl, cells3, hd3, hc3, hl3⟩, b3⟩
      have r1 := mod_range m (m := 2147483629) (by decide)
      refine ⟨_, rfl, .inl ⟨_, rfl, _, _, rfl, rfl, (by show (0 : Int) < _; decide), _, _, rfl, rfl, .inl ⟨_, rfl, _, _, rfl, rfl, .inr (by decide), _, _, rfl, rfl, (by show (0 : Int) < _; decide), ?_⟩⟩⟩
      have r2 := mod_range ((m % 2147483629 + 43) * 40692) (m := 2147483647) (by decide)
      refine ⟨_, rfl, _, rfl, _, _, rfl, rfl, .inl (by omega), _, rfl, d, _, 2, _, rfl, rfl, SqL.of hd3, rfl, _, _, rfl, rfl, .inl (by decide), _, _, rfl, rfl, _, _, rfl, rfl, .inl ⟨_, rfl, _, _, rfl, rfl, (by show (0 : Int) < _; decide), ?_⟩⟩
      refine ⟨_, rfl, _, _, rfl, rfl, .inr (by decide), .inl ⟨_, rfl, _, _, rfl, rfl, (by show (0 : Int) < _; decide), _, _, rfl, rfl, ⟨by decide, by decide⟩, _, rfl, _, _, rfl, rfl, hb0, ?_⟩⟩
      exact k _ _ (Int.emod_nonneg _ (by omega)) (Int.emod_lt_of_pos _ hb0) ⟨hcd, bl, cells3, hd3, hc3, hl3⟩ b3
end
end K01

set_option Elab.async false
set_option linter.all false
set_option maxRecDepth 100000
set_option maxHeartbeats 2000000
namespace K01
open PySem PySem.Spec PyProof.Rows L2 Ami
section
variable {P : Program} {w : World} {K : PySem.W.Frag} {mg : Str → Option Value} {base : Heap}
theorem scPick : FnScope ["_law_deck_here", "_law_some"] ["_law_deck_here", "_law_some"] (defScope sPick) := ⟨rfl, rfl, rfl, by decide +kernel, rfl, by decide +kernel, by decide +kernel⟩
theorem ok_pick {f f1 : Addr} {fd fd1 : FuncData} (F : Fun K "_law_pick" "_law_pick" sPick f fd) (T : Blt mg) (D1 : DefAt K mg "_law_draw" sDraw ["_law_deck_here", "_law_bound"] f1 fd1) : FnOk P w K mg base CX0 2 f fd ["_law_deck_here", "_law_some"] (spPick K) := by
  have G1 : FnOk P w K mg base CX0 1 f1 fd1 ["_law_deck_here", "_law_bound"] spDraw := ok_draw D1.F T
  refine F.ok scPick (fun vs H Q E h => ?_) (fun cdv A outer s H vs Q E hr h => ?_)
  · obtain ⟨d, c, n, x, xs, rfl, _⟩ := h
    rfl
  · obtain ⟨d, c, n, x, xs, rfl, hne, hl, hn, D, hs, k⟩ := h
    have lp : 0 < xs.length := List.length_pos_iff.mpr hne
    refine ⟨_, pss_one (ps_ret (pe_ix ix_seq (pv 1) (pc D1 G1 hr (pa_cons (pv 0) (pa_cons (pe_callB call_len (by rfl) T.len PySem.boot_len (pa_cons (pv 1) pa_nil)) pa_nil))) (fun _ _ => rfl))), ?_⟩
    have hlen : LenV K x H xs.length := by
      cases hs.now with
      | lst h => exact .inl ⟨xs, h, rfl⟩
      | txt z h => exact ⟨h, by rw [List.length_map, letts_length]⟩
    refine ⟨_, rfl, _, rfl, _, rfl, _, _, rfl, hlen, ?_⟩
    refine ⟨d, c, n, _, rfl, by omega, by omega, hn, D, fun H' r h0 h1 D' B => ?_⟩
    obtain ⟨j, rfl⟩ : ∃ j : Nat, r = j := ⟨r.toNat, by omega⟩
    have hi : j < xs.length := by omega
    have mem : xs[j] ∈ xs := List.getElem_mem hi
    cases (hs.go B).now with
    | lst h => exact .inl ⟨_, xs, j, _, rfl, rfl, h, atI_nat (List.getElem?_eq_getElem hi), k _ _ mem D' B⟩
    | txt z h =>
      have hz : j < z.cps.toList.length := by
        rw [List.length_map, letts_length] at hi
        rw [Array.length_toList]; exact hi
      refine .inr (.inr ⟨z, j, z.cps.toList[j], rfl, rfl, h, atI_nat (List.getElem?_eq_getElem hz), ?_⟩)
      have e : ((letts z).map V.str)[j] = V.str ⟨#[z.cps.toList[j]]⟩ := by
        simp [letts, one]
      rw [← e]
      exact k _ _ mem D' B
end
end K01

set_option Elab.async false
set_option linter.all false
set_option maxRecDepth 100000
set_option maxHeartbeats 2000000
namespace K01
open PySem PySem.Spec PyProof.Rows L2 Ami
/-- a new deck over the script -/
def spDeck (K : PySem.W.Frag) : Sp := fun vs H Q _ => ∃ (a : Addr) (ns : List Int), vs = [.ref a] ∧ SqL K H a (ns.map V.int) ∧ ns.length ≤ 63 ∧
  ∀ (H' : Hp) (d c : Addr), H d = none → H c = none → DeckAt H' d c 0 → Same H H' → Q (.ref d) H'
theorem cut_ints (ns : List Int) (lo hi : Option Int) : ∃ ms : List Int, cutV (ns.map V.int) lo hi = ms.map V.int ∧ ms.length ≤ ns.length := by
  refine ⟨(ns.drop (HT.sIx (ns.map V.int).length 0 lo)).take (HT.sIx (ns.map V.int).length (ns.map V.int).length hi - HT.sIx (ns.map V.int).length 0 lo), ?_, ?_⟩
  · unfold cutV
    rw [List.map_take, List.map_drop]
  · rw [List.length_take, List.length_drop]; omega
section
variable {P : Program} {w : World} {K : PySem.W.Frag} {mg : Str → Option Value} {base : Heap}
theorem scDeck : FnScope ["_law_script", "_law_cells", "_law_blend", "_law_cell"] ["_law_script"] (defScope sDeck) := ⟨rfl, rfl, rfl, by decide +kernel, rfl, by decide +kernel, by decide +kernel⟩
theorem ok_deck {f : Addr} {fd : FuncData} (F : Fun K "_law_deck" "_law_deck" sDeck f fd) (T : Blt mg) : FnOk P w K mg base CX0 1 f fd ["_law_script"] (spDeck K) := by
  refine F.ok scDeck (fun vs H Q E h => ?_) (fun cdv A outer s H vs Q E hr h => ?_)
  · obtain ⟨a, ns, rfl, _⟩ := h
    rfl
  · obtain ⟨a, ns, rfl, hS, hlen, k⟩ := h
    refine ⟨_, pss_cons (ps_par (i := 1) (j := 2) rfl scDeck.nd rfl rfl (by decide) rfl rfl (pa_cons (pe_callTy call_list_of (by rfl) T.list (by decide +kernel) (pa_cons (pe_slice sl_list (pv 0) po_none (po_some pe_int)) pa_nil)) (pa_cons pe_int pa_nil)) (by rfl))
      (pss_cons (ps_for PassesOwn.never rfl (pi_list (pv 1)) (pg_name (i := 3) scDeck.nd rfl (Or.inl rfl))
        (pss_one (ps_set (i := 2) scDeck.nd rfl (Or.inl rfl) (pe_op op_mod (pe_callTy call_int1 (by rfl) T.int (by decide +kernel) (pa_cons (pe_op op_add (pe_op op_add (pe_op op_mul (pv 2) pe_int) (pe_op op_mod (pe_callTy call_int1 (by rfl) T.int (by decide +kernel) (pa_cons (pv 3) pa_nil)) pe_int)) pe_int) pa_nil)) pe_int))))
      (pss_one (ps_ret (pe_lst (pa_cons (pe_revL (pv 1)) (pa_cons (pv 2) (pa_cons pe_int pa_nil))))))), ?_⟩
    obtain ⟨ms, em, hm⟩ := cut_ints ns none (some 63)
    refine ⟨_, rfl, _, rfl, a, _, rfl, hS, fun p hp => ⟨p, _, rfl, .inl (SqL.of upd_same), fun l hl => ⟨_, _, rfl, ?_⟩⟩⟩
    rw [em]
    have s1 : Same H (upd H p (.lst (ms.map V.int))) := Same.upd hp
    have hl' : (upd H p (.lst (ms.map V.int))) l = none := by rw [← em]; exact hl
    have s2 : Same H (upd (upd H p (.lst (ms.map V.int))) l (.lst (ms.map V.int))) := s1.trans (Same.upd hl')
    have h2 : (upd (upd H p (.lst (ms.map V.int))) l (.lst (ms.map V.int))) l = some (.lst (ms.map V.int)) := upd_same
    revert s2 h2
    generalize upd (upd H p (.lst (ms.map V.int))) l (.lst (ms.map V.int)) = H2
    intro s2 h2
    refine ⟨_, rfl, l, rfl, ⟨_, SqL.of h2⟩, for_list (K := K) (a := l) (xs := ms.map V.int) (fun i σ H' => ∃ (b : Int) (v : Option V), σ = [some (.ref a), some (.ref l), some (.int b), v] ∧ H' = H2)
      ⟨_, none, rfl, rfl⟩ (fun i σ H' _ ⟨_, _, _, e⟩ => by rw [e]; exact SqL.of h2) ?_ ?_⟩
    · rintro i y σ H' hi ⟨b, v, rfl, rfl⟩
      obtain ⟨z, rfl⟩ : ∃ z, y = V.int z := by
        rw [List.getElem?_map] at hi
        cases e : ms[i]? with
        | none => rw [e] at hi; cases hi
        | some z => rw [e] at hi; exact ⟨z, (Option.some.inj hi).symm⟩
      refine ⟨_, rfl, _, _, rfl, rfl, .inr (by decide), _, rfl, .inl ⟨_, rfl, _, _, rfl, rfl, (by show (0 : Int) < _; decide), _, _, rfl, rfl, _, _, rfl, rfl, .inl ⟨_, rfl, _, _, rfl, rfl, (by show (0 : Int) < _; decide), ?_⟩⟩⟩
      exact ⟨_, _, rfl, rfl⟩
    · rintro σ H' ⟨b, v, rfl, rfl⟩
      refine ⟨_, rfl, l, _, rfl, SqL.of h2, fun c hc => ⟨_, rfl, (by show 3 ≤ sizeLine; decide), fun d hd => ?_⟩⟩
      have ndc : d ≠ c := fun e => by rw [e, upd_same] at hd; cases hd
      have hd' : H' d = none := by rw [upd_ne ndc] at hd; exact hd
      refine k _ d c (s2.free hd') (s2.free hc) ⟨Ne.symm ndc, b, ms.reverse, upd_same, ?_, ?_⟩ (s2.trans ((Same.upd hc).trans (Same.upd hd)))
      · rw [upd_ne (Ne.symm ndc), upd_same, List.map_reverse]
      · rw [List.length_reverse]; omega
end
end K01

set_option Elab.async false
set_option linter.all false
set_option maxRecDepth 100000
set_option maxHeartbeats 2000000
namespace K01
open PySem PySem.Spec PyProof.Rows L2 Ami
section
variable {P : Program} {w : World} {K : PySem.W.Frag} {mg : Str → Option Value} {base : Heap}
theorem pool_letts : letts (Str.ofString "abcdehmxyz") = Ami.pool.map one := by decide +kernel
theorem scSigns : FnScope ["_law_deck_here", "_law_top", "_law_pool", "_law_found", "_law_k"] ["_law_deck_here", "_law_top"] (defScope sSigns) := ⟨rfl, rfl, rfl, by decide +kernel, rfl, by decide +kernel, by decide +kernel⟩
theorem ok_signs {f f1 : Addr} {fd fd1 : FuncData} (F : Fun K "_law_signs" "_law_signs" sSigns f fd) (T : Blt mg) (D1 : DefAt K mg "_law_draw" sDraw ["_law_deck_here", "_law_bound"] f1 fd1) : FnOk P w K mg base CX0 2 f fd ["_law_deck_here", "_law_top"] spSigns := by
  have G1 : FnOk P w K mg base CX0 1 f1 fd1 ["_law_deck_here", "_law_bound"] spDraw := ok_draw D1.F T
  refine F.ok scSigns (fun vs H Q E h => ?_) (fun cdv A outer s H vs Q E hr h => ?_)
  · obtain ⟨d, c, n, tp, rfl, _⟩ := h
    rfl
  · obtain ⟨d, c, n, tp, rfl, ht1, ht2, hn, D, k⟩ := h
    refine ⟨_, pss_cons (ps_par (i := 2) (j := 3) rfl scSigns.nd rfl rfl (by decide) rfl rfl (pa_cons (pe_callTy (cr_listStr rfl) (by rfl) T.list (by decide +kernel) (pa_cons pe_str pa_nil)) (pa_cons (pe_lst pa_nil) pa_nil)) (by rfl))
      (pss_cons (ps_for PassesOwn.never rfl (pi_range1 rfl T.range (pa_cons (pe_op op_add pe_int (pc D1 G1 hr (pa_cons (pv 0) (pa_cons (pe_op op_sub (pv 1) pe_int) pa_nil)))) pa_nil)) (pg_name (i := 4) scSigns.nd rfl (Or.inl rfl))
        (pss_one (ps_expr (pe_bm PySem.F.plainAttrs_list PySem.F.slot_list_append PySem.F.type_list_append mt_append (pv 3)
          (pa_cons (pe_bm PySem.F.plainAttrs_list PySem.F.slot_list_pop PySem.F.type_list_pop mt_popAt (pv 2) (pa_cons (pc D1 G1 hr (pa_cons (pv 0) (pa_cons (pe_callB call_len (by rfl) T.len PySem.boot_len (pa_cons (pv 2) pa_nil)) pa_nil))) pa_nil)) pa_nil)))))
      (pss_one (ps_ret (pe_join pe_str (pe_callB cr_sortedS (by rfl) T.sorted (by decide +kernel) (pa_cons (pv 3) pa_nil)))))), ?_⟩
    refine ⟨_, rfl, (by decide), fun p hp => ⟨Nat.zero_le _, fun q hq => ⟨_, _, rfl, ?_⟩⟩⟩
    rw [pool_letts] at hq ⊢
    have npq : q ≠ p := fun e => by rw [e, upd_same] at hq; cases hq
    have hq' : H q = none := by rw [upd_ne npq] at hq; exact hq
    obtain ⟨pd, pcc⟩ := D.ned hp
    obtain ⟨qd, qcc⟩ := D.ned hq'
    have D2 : DeckAt (upd (upd H p (.lst ((Ami.pool.map one).map V.str))) q (.lst [])) d c n := (D.new hp).new hq
    have B2 : But d c H (upd (upd H p (.lst ((Ami.pool.map one).map V.str))) q (.lst [])) := ((But.refl d c H).new hp).new hq
    have hp2 : (upd (upd H p (.lst ((Ami.pool.map one).map V.str))) q (.lst [])) p = some (.lst ((Ami.pool.map one).map V.str)) := by rw [upd_ne (Ne.symm npq), upd_same]
    have hq2 : (upd (upd H p (.lst ((Ami.pool.map one).map V.str))) q (.lst [])) q = some (.lst []) := upd_same
    revert D2 B2 hp2 hq2
    generalize upd (upd H p (.lst ((Ami.pool.map one).map V.str))) q (.lst []) = H2
    intro D2 B2 hp2 hq2
    refine ⟨_, rfl, _, rfl, _, _, rfl, rfl, ?_⟩
    refine ⟨d, c, n, _, rfl, by omega, by omega, by omega, D2, fun H3 r h0 h1 D3 B3 => ⟨_, _, rfl, rfl, _, rfl, by omega, by omega, ?_⟩⟩
    obtain ⟨j, rfl⟩ : ∃ j : Nat, r = j := ⟨r.toNat, by omega⟩
    have ej : (2 + (j : Int)).toNat = 2 + j := by omega
    rw [ej]
    have hj : j + 2 ≤ tp := by omega
    refine for_range (lo := 0) (n := 2 + j) (fun i σ H' => ∃ (v : Option V) (ps fs : List Nat), σ = [some (.ref d), some (.int tp), some (.ref p), some (.ref q), v] ∧ H' p = some (.lst ((ps.map one).map V.str)) ∧ H' q = some (.lst ((fs.map one).map V.str)) ∧
      fs.length = i ∧ (fs ++ ps).Perm Ami.pool ∧ DeckAt H' d c (n + 1 + i) ∧ But d c H H') ⟨none, Ami.pool, [], rfl, B3 _ _ pd pcc hp2, B3 _ _ qd qcc hq2, rfl, List.Perm.refl _, D3, B2.trans B3⟩ ?_ ?_
    · rintro i σ H' hi ⟨v, ps, fs, rfl, e1, e2, hl, pm, D4, B4⟩
      have hps : ps.length = 10 - i := by
        have := pm.length_eq
        rw [List.length_append, hl] at this
        have e : Ami.pool.length = 10 := rfl
        omega
      have e1l : ((ps.map one).map V.str).length = ps.length := by rw [List.length_map, List.length_map]
      refine ⟨_, rfl, .inl ⟨rfl, _, SqL.of e2⟩, _, rfl, .inl ⟨rfl, _, SqL.of e1⟩, _, rfl, _, rfl, _, _, rfl, .inl ⟨_, SqL.of e1, rfl⟩, ?_⟩
      rw [e1l]
      refine ⟨d, c, _, _, rfl, by omega, by omega, by omega, D4, fun H5 r h0 h1 D5 B5 => ?_⟩
      obtain ⟨m, rfl⟩ : ∃ m : Nat, r = m := ⟨r.toNat, by omega⟩
      have hm : m < ps.length := by omega
      have e1' := B5 _ _ pd pcc e1
      have e2' := B5 _ _ qd qcc e2
      have em : ((ps.map one).map V.str)[m]? = some (V.str (one ps[m])) := by rw [List.getElem?_map, List.getElem?_map, List.getElem?_eq_getElem hm]; rfl
      refine ⟨p, _, m, m, _, rfl, rfl, e1', by omega, by omega, ?_, em, ?_⟩
      · rw [seqIndex_of (by omega) (by rw [e1l]; omega)]; rfl
      · have er : ((ps.map one).map V.str).eraseIdx m = ((ps.eraseIdx m).map one).map V.str := by rw [eraseMap, eraseMap]
        rw [er]
        refine ⟨q, _, _, rfl, rfl, (by rw [upd_ne npq]; exact e2'), ?_, ?_⟩
        · rw [List.length_map, List.length_map, hl]
          exact Nat.lt_of_lt_of_le (by omega : i < 100) (by decide)
        · refine ⟨_, ps.eraseIdx m, fs ++ [ps[m]], rfl, ?_, ?_, ?_, ?_, ?_, ?_⟩
          · rw [upd_ne (Ne.symm npq), upd_same]
          · rw [upd_same, List.map_append, List.map_append]; rfl
          · rw [List.length_append, hl]; rfl
          · have g := erase_perm ps m ps[m] (List.getElem?_eq_getElem hm)
            have g2 : (fs ++ [ps[m]] ++ ps.eraseIdx m).Perm (fs ++ ps) := by
              rw [List.append_assoc]
              exact List.Perm.append_left fs g
            exact g2.trans pm
          · have D6 : DeckAt H5 d c (n + 1 + (i + 1)) := D5
            exact (D6.set pd pcc).set qd qcc
          · intro b o h1 h2 e
            have e' := (B4.trans B5) b o h1 h2 e
            have nb : b ≠ p := ne_of_none e hp
            have nb2 : b ≠ q := ne_of_none e hq'
            rw [upd_ne nb2, upd_ne nb]
            exact e'
    · rintro σ H' ⟨v, ps, fs, rfl, e1, e2, hl, pm, D4, B4⟩
      refine ⟨⟨_, rfl⟩, _, rfl, q, fs.map one, rfl, SqL.of e2, ?_, fun ys z hy hs hz => ?_⟩
      · rw [List.length_map, hl]
        omega
      · obtain ⟨cs, rfl, hcs⟩ := unmap_ones hy
        have hcl : cs.length = 2 + j := by rw [hcs.length_eq]; exact hl
        refine ⟨_, z, cs.map one, rfl, rfl, .inl (SqL.of upd_same), ?_, ?_⟩
        · have e : (cs.map one).map (fun x : Str => x.length) = List.replicate cs.length 1 := by
            rw [List.map_map]
            exact List.eq_replicate_iff.mpr ⟨by rw [List.length_map], fun b hb => by obtain ⟨c, _, rfl⟩ := List.mem_map.mp hb; rfl⟩
          rw [e, List.sum_replicate_nat, List.length_map]
          have e0 : (Str.ofString "").length = 0 := by decide +kernel
          rw [e0]; omega
        · have e0 : Str.ofString "" = ⟨#[]⟩ := by decide +kernel
          rw [e0, joinOnes]
          have nd : cs.Nodup := by
            have : (fs ++ ps).Nodup := pm.nodup_iff.mpr (by decide)
            exact hcs.nodup_iff.mpr (List.nodup_append.mp this).1
          refine k _ _ (n + 1 + (2 + j)) ⟨cs, rfl, lt_of_le (sorted_ones hs) nd, by omega, by omega, fun c hc => ?_⟩ (by omega) (D4.new hz) (B4.new hz)
          exact pm.mem_iff.mp (List.mem_append_left _ (hcs.mem_iff.mp hc))
end
end K01

set_option Elab.async false
set_option linter.all false
set_option maxRecDepth 100000
set_option maxHeartbeats 2000000
namespace Ami
open PySem PySem.Spec PyProof.Rows L2
/-- whether x is a text, and which -/
def IsT (K : PySem.W.Frag) (H : Hp) (x : V) : Option Str → Prop
  | some z => x = .str z ∧ z.length ≤ 100000 ∧ Asc z
  | none => ∃ t, TyX K H x t ∧ PySem.W.kitOne K t (.type "str") = some false
def isWordB (ls z : Str) : Bool := z.cps.toList.all fun c => decide (c ∈ ls.cps.toList)
def wordO (ls : Str) : Option Str → Bool
  | some z => isWordB ls z
  | none => false
/-- is_word -/
def spIsWord (K : PySem.W.Frag) : Sp := fun vs H Q _ => ∃ (ls : Str) (x : V) (o : Option Str), vs = [.str ls, x] ∧ IsT K H x o ∧ ∀ H', Same H H' → Q (.bl (wordO ls o)) H'
theorem IsT.ty {K : PySem.W.Frag} {H : Hp} {x : V} {o : Option Str} (h : IsT K H x o) : ∃ t, TyX K H x t ∧ PySem.W.kitOne K t (.type "str") = some o.isSome := by
  cases o with
  | none => exact h
  | some z =>
    obtain ⟨rfl, _⟩ := h
    exact ⟨_, .base (.str z), show PySem.W.kitOne K (.type "str") (.type "str") = some true from kit_ty (by decide +kernel)⟩
theorem take_next {α : Type} {l : List α} {i : Nat} {c : α} (h : l[i]? = some c) : l.take (i + 1) = l.take i ++ [c] := by
  rw [List.take_succ, h]; rfl
theorem small5 {n : Nat} (h : n ≤ 100000) : n < sizeLine := Nat.lt_of_le_of_lt h (by decide)
end Ami
namespace K01
open PySem PySem.Spec PyProof.Rows L2 Ami
section
variable {P : Program} {w : World} {K : PySem.W.Frag} {mg : Str → Option Value} {base : Heap}
theorem scWord : FnScope ["letters", "thing", "letter"] ["letters", "thing"] (defScope sWord) := ⟨rfl, rfl, rfl, by decide +kernel, rfl, by decide +kernel, by decide +kernel⟩
theorem ok_word {f : Addr} {fd : FuncData} (F : Fun K "is_word" "is_word" sWord f fd) (T : Blt mg) : FnOk P w K mg base CX0 1 f fd ["letters", "thing"] (spIsWord K) := by
  refine F.ok scWord (fun vs H Q E h => ?_) (fun cdv A outer s H vs Q E hr h => ?_)
  · obtain ⟨ls, x, o, rfl, _⟩ := h
    rfl
  · obtain ⟨ls, x, o, rfl, ho, k⟩ := h
    refine ⟨_, pss_one (ps_ret (pe_and (pe_callB call_isi (by rfl) T.isi (by decide +kernel) (pa_cons (pv 1) (pa_cons (pe_bltn (v := .ty "str") (by rfl) T.str (by decide +kernel) rfl) pa_nil)))
      (pe_one (pe_callB (cr_all rfl) (by rfl) T.all (by decide +kernel) (pa_cons (pe_lc (own := [("letter", 2)]) (g := gName 2) (tt := tYes) rfl scWord.nd (pi_str (pv 1)) (blkOk_by (own := [("letter", 2)]) (N := ["letters", "thing", "letter"]) (sc := defScope sWord) (by decide +kernel))
        (fun _ _ _ _ _ => pg_name (i := 2) scWord.nd rfl (Or.inl rfl)) (fun _ _ _ _ _ => pts_nil) (fun _ _ _ _ _ => pe_cmpR op_in_sign (pv 2) (pv 0) (by rfl))) pa_nil))))), ?_⟩
    obtain ⟨t, ht, hk⟩ := ho.ty
    refine ⟨_, rfl, x, .ty "str", t, .type "str", _, rfl, .ty _, ht, hk, _, rfl, ?_⟩
    cases o with
    | none => exact iteF (k H (Same.refl H))
    | some z =>
      obtain ⟨rfl, hz, hA⟩ := ho
      refine iteT ?_
      refine ⟨_, rfl, z, rfl, fun D hD => lc_it walk_str (fun i H' => H' = upd H D (.lst (((z.cps.toList.take i).map fun c => decide (c ∈ ls.cps.toList)).map V.bl))) rfl (fun _ _ _ _ => trivial) ?_ ?_⟩
      · rintro i y H1 H2 hi rfl ⟨rfl, c, hc, rfl⟩
        refine ⟨rfl, ?_⟩
        dsimp only [tYes]
        refine iteT ?_
        refine ⟨_, rfl, _, rfl, c, ls, rfl, rfl, _, upd_same, ?_, ?_⟩
        · rw [List.length_map, List.length_map, List.length_take]
          exact small5 (Nat.le_trans (Nat.min_le_left _ _) (Nat.le_trans (Nat.le_of_lt hi) hz))
        · have e : z.cps.toList[i]? = some c := by rw [Array.getElem?_toList]; exact hc
          rw [upd_upd, Ami.take_next e, List.map_append, List.map_append]; rfl
      · rintro H1 rfl
        refine ⟨D, _, rfl, SqL.of upd_same, ?_⟩
        have e : (((z.cps.toList.take z.cps.size).map fun c => decide (c ∈ ls.cps.toList)).all id) = isWordB ls z := by
          rw [List.take_of_length_le (by rw [Array.length_toList]; exact Nat.le_refl _), List.all_map]; rfl
        rw [e]
        exact k _ (Same.upd hD)
end
end K01

set_option Elab.async false
set_option linter.all false
set_option maxRecDepth 100000
set_option maxHeartbeats 2000000
namespace Ami
open PySem PySem.Spec PyProof.Rows L2
def alpha : Str := Str.ofString "abcdefghijklmnopqrstuvwxyz"
def isLetB (z : Str) : Bool := if 2 ≤ z.length ∧ z.length ≤ 5 then isWordB alpha z && decide (z.cps.toList.Pairwise (· < ·)) else false
def letO : Option Str → Bool
  | some z => isLetB z
  | none => false
/-- is_letters -/
def spIsLetters (K : PySem.W.Frag) : Sp := fun vs H Q _ => ∃ (x : V) (o : Option Str), vs = [x] ∧ IsT K H x o ∧ ∀ H', Same H H' → Q (.bl (letO o)) H'
/-- a set of signs: its texts -/
theorem keys_texts {l : List Key} (h : ∀ k ∈ l, ∃ x, k = Sum.inr x) (nd : l.Nodup) : ∃ ss : List Str, l = ss.map Sum.inr ∧ ss.Nodup := by
  induction l with
  | nil => exact ⟨[], rfl, List.nodup_nil⟩
  | cons k r ih =>
    obtain ⟨n1, n2⟩ := List.nodup_cons.mp nd
    obtain ⟨ss, e, ns⟩ := ih (fun k hk => h k (List.mem_cons_of_mem _ hk)) n2
    obtain ⟨x, rfl⟩ := h k List.mem_cons_self
    refine ⟨x :: ss, by rw [e]; rfl, List.nodup_cons.mpr ⟨fun m => n1 ?_, ns⟩⟩
    rw [e]
    exact List.mem_map.mpr ⟨x, m, rfl⟩
theorem ones_of {ss : List Str} {z : Str} (h : ∀ x, x ∈ ss ↔ x ∈ letts z) (nd : ss.Nodup) : ∃ cs : List Nat, ss = cs.map one ∧ cs.Nodup ∧ ∀ c, c ∈ cs ↔ c ∈ z.cps.toList := by
  have e : ss = (ss.map fun y => y.cps.getD 0 0).map one := by
    rw [List.map_map]
    conv => lhs; rw [← List.map_id ss]
    refine List.map_congr_left fun y hy => ?_
    obtain ⟨c, _, rfl⟩ := List.mem_map.mp ((h y).mp hy)
    rfl
  refine ⟨_, e, ?_, fun c => ?_⟩
  · rw [e] at nd
    exact (List.pairwise_map.mp nd).imp fun hne q => hne (congrArg one q)
  · constructor
    · intro hc
      obtain ⟨y, hy, rfl⟩ := List.mem_map.mp hc
      obtain ⟨d, hd, rfl⟩ := List.mem_map.mp ((h y).mp hy)
      exact hd
    · intro hc
      have : one c ∈ ss := (h _).mpr (List.mem_map.mpr ⟨c, hc, rfl⟩)
      exact List.mem_map.mpr ⟨one c, this, rfl⟩
end Ami
namespace K01
open PySem PySem.Spec PyProof.Rows L2 Ami
/-- the constants of words.py -/
structure Cst (mg : Str → Option Value) : Prop where
  few : ∃ t, mg "FEWEST_LETTERS" = some (.int 2 t)
  most : ∃ t, mg "MOST_LETTERS" = some (.int 5 t)
  alpha : ∃ t, mg "ALPHABET" = some (.str alpha t)
section
variable {P : Program} {w : World} {K : PySem.W.Frag} {mg : Str → Option Value} {base : Heap}
theorem scLetters : FnScope ["thing"] ["thing"] (defScope sLetters) := ⟨rfl, rfl, rfl, by decide +kernel, rfl, by decide +kernel, by decide +kernel⟩
theorem ok_letters {f f1 : Addr} {fd fd1 : FuncData} (F : Fun K "is_letters" "is_letters" sLetters f fd) (T : Blt mg) (C : Cst mg) (D1 : DefAt K mg "is_word" sWord ["letters", "thing"] f1 fd1) : FnOk P w K mg base CX0 2 f fd ["thing"] (spIsLetters K) := by
  have G1 : FnOk P w K mg base CX0 1 f1 fd1 ["letters", "thing"] (spIsWord K) := ok_word D1.F T
  obtain ⟨⟨t1, c1⟩, ⟨t2, c2⟩, t3, c3⟩ := C
  refine F.ok scLetters (fun vs H Q E h => ?_) (fun cdv A outer s H vs Q E hr h => ?_)
  · obtain ⟨x, o, rfl, _⟩ := h
    rfl
  · obtain ⟨x, o, rfl, ho, k⟩ := h
    refine ⟨_, pss_cons (ps_if (PW.pt (pw_or (pt_not (pt_val (pe_callB call_isi (by rfl) T.isi (by decide +kernel) (pa_cons (pv 0) (pa_cons (pe_bltn (v := .ty "str") (by rfl) T.str (by decide +kernel) rfl) pa_nil)))))
        (pw_or1 (pt_not (pt_chain op_le op_le (pe_glob (v := .int 2) (by rfl) c1 ⟨_, rfl⟩) (pe_callB call_len (by rfl) T.len PySem.boot_len (pa_cons (pv 0) pa_nil)) (pe_glob (v := .int 5) (by rfl) c2 ⟨_, rfl⟩)))))) (pss_one (ps_ret pe_bl)) pss_nil)
      (pss_one (ps_ret (pe_and (pc D1 G1 hr (pa_cons (pe_glob (v := .str alpha) (by rfl) c3 ⟨_, rfl⟩) (pa_cons (pv 0) pa_nil)))
        (pe_one (pe_cmpR op_eq (pv 0) (pe_join pe_str (pe_callB (cr_sortedW rfl) (by rfl) T.sorted (by decide +kernel) (pa_cons (pe_callTy (cr_setStr rfl) (by rfl) T.set (by decide +kernel) (pa_cons (pv 0) pa_nil)) pa_nil))) (nomark _)))))), ?_⟩
    obtain ⟨t, ht, hk⟩ := ho.ty
    refine ⟨_, rfl, x, .ty "str", t, .type "str", _, rfl, .ty _, ht, hk, _, rfl, ?_⟩
    cases o with
    | none => exact iteT (iteT (k H (Same.refl H)))
    | some z =>
      obtain ⟨rfl, hz, hA⟩ := ho
      have no : ∀ b : Bool, b = isLetB z → ∀ H', Same H H' → Q (.bl b) H' := fun b e H' s => by rw [e]; exact k H' s
      refine iteF ?_
      refine ⟨_, rfl, _, _, rfl, ⟨Nat.le_of_lt (small5 hz), rfl⟩, _, _, rfl, rfl, _, rfl, ?_⟩
      refine ite2 (fun a => ?_) (fun a => ?_)
      · refine ⟨_, _, rfl, rfl, _, rfl, ?_⟩
        refine ite2 (fun b => ?_) (fun b => ?_)
        · refine no false ?_ H (Same.refl H)
          have b' : ¬ (((z.length : Nat) : Int) ≤ 5) := by simpa using b
          unfold isLetB
          rw [if_neg (by omega)]
        · have a' : (2 : Int) ≤ ((z.length : Nat) : Int) := by simpa using a
          have b' : ((z.length : Nat) : Int) ≤ 5 := by simpa using b
          have hab : 2 ≤ z.length ∧ z.length ≤ 5 := by omega
          refine ⟨_, rfl, alpha, _, some z, rfl, ⟨rfl, hz, hA⟩, fun H1 s1 => ⟨_, rfl, ?_⟩⟩
          have e0 : isLetB z = (isWordB alpha z && decide (z.cps.toList.Pairwise (· < ·))) := by unfold isLetB; rw [if_pos hab]
          refine ite2 (fun hw => ?_) (fun hw => ?_)
          · have hw' : isWordB alpha z = true := hw
            refine ⟨_, rfl, ⟨_, rfl⟩, _, rfl, z, rfl, Nat.lt_of_le_of_lt hab.2 (by decide), fun p l hp nd m1 m2 => ?_⟩
            obtain ⟨ss, rfl, ns⟩ := keys_texts m2 nd
            have m3 : ∀ x, x ∈ ss ↔ x ∈ letts z := fun x => by
              rw [← m1 x]
              exact ⟨fun h => List.mem_map.mpr ⟨x, h, rfl⟩, fun h => by obtain ⟨y, hy, e⟩ := List.mem_map.mp h; cases e; exact hy⟩
            obtain ⟨cs, rfl, nc, mc⟩ := ones_of m3 ns
            have hcl : cs.length ≤ 5 := by
              have q := nat_nodup_len cs z.cps.toList nc fun c hc => (mc c).mp hc
              rw [Array.length_toList] at q
              exact Nat.le_trans q hab.2
            refine ⟨p, cs.map one, rfl, upd_same, by rw [List.length_map]; omega, fun ys q hy hs hq => ?_⟩
            obtain ⟨ds, rfl, hd⟩ := unmap_ones hy
            have hlt : ds.Pairwise (· < ·) := lt_of_le (sorted_ones hs) (hd.nodup_iff.mpr nc)
            refine ⟨_, q, ds.map one, rfl, rfl, .inl (SqL.of upd_same), ?_, rfl, ?_⟩
            · have e : (ds.map one).map (fun x : Str => x.length) = List.replicate ds.length 1 := by
                rw [List.map_map]
                exact List.eq_replicate_iff.mpr ⟨by rw [List.length_map], fun b hb => by obtain ⟨c, _, rfl⟩ := List.mem_map.mp hb; rfl⟩
              rw [e, List.sum_replicate_nat, List.length_map]
              have e0 : (Str.ofString "").length = 0 := by decide +kernel
              have := hd.length_eq
              rw [e0]; omega
            · have e1 : Str.ofString "" = ⟨#[]⟩ := by decide +kernel
              rw [e1, joinOnes]
              have e2 : decide (V.str z = V.str ⟨ds.toArray⟩) = isLetB z := by
                rw [e0, hw', Bool.true_and]
                refine decide_eq_decide.mpr ⟨fun h => ?_, fun h => ?_⟩
                · have h' : z = ⟨ds.toArray⟩ := V.str.inj h
                  rw [h']
                  exact hlt
                · have e3 : z.cps.toList = ds := rows_eq h hlt fun c => by rw [hd.mem_iff, mc c]
                  rw [← e3]
              exact no _ e2 _ (s1.trans ((Same.upd hp).trans (Same.upd hq)))
          · refine no false ?_ _ s1
            have hw' : isWordB alpha z = false := by
              have : ¬ isWordB alpha z = true := hw
              simpa using this
            rw [e0, hw']; rfl
      · refine ⟨_, rfl, ?_⟩
        refine iteT ?_
        refine no false ?_ H (Same.refl H)
        have a' : ¬ ((2 : Int) ≤ ((z.length : Nat) : Int)) := by simpa using a
        unfold isLetB
        rw [if_neg (by omega)]
end
end K01

set_option Elab.async false
set_option linter.all false
set_option maxRecDepth 100000
set_option maxHeartbeats 2000000
namespace Ami
open PySem PySem.Spec PyProof.Rows L2
theorem lt_one (a b : Nat) : decide (([a] : List Nat) < [b]) = decide (a < b) := by
  rw [← ltCps_eq]
  show (decide (a < b) || (a == b && false)) = decide (a < b)
  rw [Bool.and_false, Bool.or_false]
/-- 'a' <= c <= 'z', by signs -/
def inAZ (c : Nat) : Bool := decide (97 ≤ c) && decide (c ≤ 122)
theorem alpha_mem (c : Nat) : decide (c ∈ alpha.cps.toList) = inAZ c := by
  have e : alpha.cps.toList = List.range' 97 26 := by decide +kernel
  rw [e]
  unfold inAZ
  rw [Bool.eq_iff_iff, decide_eq_true_eq, Bool.and_eq_true, decide_eq_true_eq, decide_eq_true_eq, List.mem_range'_1]
  omega
theorem word_alpha (z : Str) : isWordB alpha z = z.cps.toList.all inAZ := by
  unfold isWordB
  congr 1
  funext c
  exact alpha_mem c
theorem filter_empty {α : Type} (l : List α) (p : α → Bool) : (l.filter fun a => !p a).isEmpty = l.all p := by
  induction l with
  | nil => rfl
  | cons a r ih =>
    rw [List.filter_cons, List.all_cons]
    cases p a with
    | true => simpa using ih
    | false => rfl
/-- rising, place by place -/
def risesB (l : List Nat) : Bool := (List.range (l.length - 1)).all fun j => decide (l.getD j 0 < l.getD (j + 1) 0)
theorem rises_iff : ∀ l : List Nat, risesB l = decide (l.Pairwise (· < ·)) := by
  intro l
  rw [Bool.eq_iff_iff, decide_eq_true_eq]
  unfold risesB
  rw [List.all_eq_true]
  constructor
  · intro h
    rw [List.pairwise_iff_getElem]
    have step : ∀ j, j + 1 < l.length → l.getD j 0 < l.getD (j + 1) 0 := fun j hj => of_decide_eq_true (h j (List.mem_range.mpr (by omega)))
    have far : ∀ d i, i + d + 1 < l.length → l.getD i 0 < l.getD (i + d + 1) 0 := by
      intro d
      induction d with
      | zero => intro i hi; exact step i hi
      | succ d ih => intro i hi; exact Nat.lt_trans (ih i (by omega)) (step (i + d + 1) (by omega))
    intro i j hi hj hij
    have q := far (j - i - 1) i (by omega)
    have e : i + (j - i - 1) + 1 = j := by omega
    rw [e] at q
    rw [List.getD_eq_getElem?_getD, List.getD_eq_getElem?_getD, List.getElem?_eq_getElem hi, List.getElem?_eq_getElem hj] at q
    exact q
  · intro h j hj
    have hj' : j + 1 < l.length := by have := List.mem_range.mp hj; omega
    have q := List.pairwise_iff_getElem.mp h j (j + 1) (by omega) hj' (by omega)
    rw [List.getD_eq_getElem?_getD, List.getD_eq_getElem?_getD, List.getElem?_eq_getElem (show j < l.length by omega), List.getElem?_eq_getElem hj']
    exact decide_eq_true q
end Ami
namespace K01
open PySem PySem.Spec PyProof.Rows L2 Ami
section
variable {P : Program} {w : World} {K : PySem.W.Frag} {mg : Str → Option Value} {base : Heap}
theorem scIsSigns : FnScope ["_law_it", "_law_sign", "_law_k"] ["_law_it"] (defScope sIsSigns) := ⟨rfl, rfl, rfl, by decide +kernel, rfl, by decide +kernel, by decide +kernel⟩
theorem ok_isSigns {f : Addr} {fd : FuncData} (F : Fun K "_law_is_signs" "_law_is_signs" sIsSigns f fd) (T : Blt mg) : FnOk P w K mg base CX0 1 f fd ["_law_it"] (spIsLetters K) := by
  refine F.ok scIsSigns (fun vs H Q E h => ?_) (fun cdv A outer s H vs Q E hr h => ?_)
  · obtain ⟨x, o, rfl, _⟩ := h
    rfl
  · obtain ⟨x, o, rfl, ho, k⟩ := h
    have hu := hr.units
    refine ⟨_, pss_cons (ps_if (PW.pt (pw_or (pt_not (pt_val (pe_callB call_isi (by rfl) T.isi (by decide +kernel) (pa_cons (pv 0) (pa_cons (pe_bltn (v := .ty "str") (by rfl) T.str (by decide +kernel) rfl) pa_nil)))))
        (pw_or1 (pt_not (pt_chain op_lt op_lt pe_int (pe_callB call_len (by rfl) T.len PySem.boot_len (pa_cons (pv 0) pa_nil)) pe_int))))) (pss_one (ps_ret pe_bl)) pss_nil)
      (pss_cons (ps_if (pt_cmpR (op_neD hu) (pe_lc (own := [("_law_sign", 1)]) (g := gName 1) rfl scIsSigns.nd (pi_str (pv 0)) (blkOk_by (own := [("_law_sign", 1)]) (N := ["_law_it", "_law_sign", "_law_k"]) (sc := defScope sIsSigns) (by decide +kernel))
          (fun _ _ _ _ _ => pg_name (i := 1) scIsSigns.nd rfl (Or.inl rfl)) (fun _ _ _ _ _ => pts_one (pt_not (pt_chain op_le_str op_le_str pe_str (pv 1) pe_str))) (fun _ _ _ _ _ => pv 1)) (pe_lst pa_nil) (nomark _)) (pss_one (ps_ret pe_bl)) pss_nil)
      (pss_one (ps_ret (pe_cmpR (op_eqD hu) (pe_lc (own := [("_law_k", 2)]) (g := gName 2) rfl scIsSigns.nd (pi_range2 rfl T.range (pa_cons pe_int (pa_cons (pe_callB call_len (by rfl) T.len PySem.boot_len (pa_cons (pv 0) pa_nil)) pa_nil)))
          (blkOk_by (own := [("_law_k", 2)]) (N := ["_law_it", "_law_sign", "_law_k"]) (sc := defScope sIsSigns) (by decide +kernel))
          (fun _ _ _ _ _ => pg_name (i := 2) scIsSigns.nd rfl (Or.inl rfl)) (fun _ _ _ _ _ => pts_one (pt_not (pt_cmpR op_lt_str (pe_ix ix_str (pv 0) (pe_op op_sub (pv 2) pe_int) (fun _ _ => rfl)) (pe_ix ix_str (pv 0) (pv 2) (fun _ _ => rfl)) (nomark _)))) (fun _ _ _ _ _ => pv 2)) (pe_lst pa_nil) (nomark _))))), ?_⟩
    obtain ⟨t, ht, hk⟩ := ho.ty
    refine ⟨_, rfl, x, .ty "str", t, .type "str", _, rfl, .ty _, ht, hk, _, rfl, ?_⟩
    cases o with
    | none => exact iteT (iteT (k H (Same.refl H)))
    | some z =>
      obtain ⟨rfl, hz, hA⟩ := ho
      have no : ∀ b : Bool, b = isLetB z → ∀ H', Same H H' → Q (.bl b) H' := fun b e H' s => by rw [e]; exact k H' s
      have hzl : z.length ≤ sizeLine := Nat.le_of_lt (small5 hz)
      refine iteF ?_
      refine ⟨_, rfl, _, _, rfl, ⟨hzl, rfl⟩, _, _, rfl, rfl, _, rfl, ?_⟩
      have out : (¬ (2 ≤ z.length ∧ z.length ≤ 5)) → false = isLetB z := fun c => by unfold isLetB; rw [if_neg c]
      refine ite2 (fun a => ?_) (fun a => ?_)
      · refine ⟨_, _, rfl, rfl, _, rfl, ?_⟩
        refine ite2 (fun b => ?_) (fun b => ?_)
        · refine no false (out ?_) H (Same.refl H)
          have b' : ¬ (((z.length : Nat) : Int) < 6) := by simpa using b
          omega
        · have a' : (1 : Int) < ((z.length : Nat) : Int) := by simpa using a
          have b' : ((z.length : Nat) : Int) < 6 := by simpa using b
          have hab : 2 ≤ z.length ∧ z.length ≤ 5 := by omega
          have e0 : isLetB z = (z.cps.toList.all inAZ && risesB z.cps.toList) := by unfold isLetB; rw [if_pos hab, word_alpha, rises_iff]
          have ea : (Str.ofString "a").cps.toList = [97] := by decide +kernel
          have ez : (Str.ofString "z").cps.toList = [122] := by decide +kernel
          refine ⟨_, rfl, z, rfl, fun D hD => lc_it walk_str (fun i H' => H' = upd H D (.lst (((z.cps.toList.take i).filter fun c => !inAZ c).map fun c => V.str ⟨#[c]⟩))) rfl (fun _ _ _ _ => trivial) ?_ ?_⟩
          · rintro i y H1 H2 hi rfl ⟨rfl, c, hc, rfl⟩
            have e : z.cps.toList[i]? = some c := by rw [Array.getElem?_toList]; exact hc
            refine ⟨rfl, _, rfl, _, _, rfl, rfl, _, rfl, ?_⟩
            have step : ∀ m : Bool, m = inAZ c → if (!m) = true then ∃ v, ((wipe (start ["_law_it", "_law_sign", "_law_k"] [V.str z]) [1]).set 1 (some (V.str ⟨#[c]⟩)))[1]? = some (some v) ∧
                (fun y H4 => ∃ acc, H4 D = some (.lst acc) ∧ acc.length < sizeLine ∧ upd H4 D (.lst (acc ++ [y])) = upd H D (.lst (((z.cps.toList.take (i + 1)).filter fun c => !inAZ c).map fun c => V.str ⟨#[c]⟩)))
                  v (upd H D (.lst (((z.cps.toList.take i).filter fun c => !inAZ c).map fun c => V.str ⟨#[c]⟩)))
              else upd H D (.lst (((z.cps.toList.take i).filter fun c => !inAZ c).map fun c => V.str ⟨#[c]⟩)) = upd H D (.lst (((z.cps.toList.take (i + 1)).filter fun c => !inAZ c).map fun c => V.str ⟨#[c]⟩)) := by
              rintro m rfl
              rw [Ami.take_next e, List.filter_append]
              cases hm : inAZ c with
              | false =>
                refine iteT ⟨_, rfl, _, upd_same, ?_, ?_⟩
                · rw [List.length_map]
                  exact small5 (Nat.le_trans (List.length_filter_le _ _) (Nat.le_trans (List.length_take_le _ _) (Nat.le_trans (Nat.le_of_lt hi) hz)))
                · have e2 : ([c].filter fun c => !inAZ c) = [c] := by rw [List.filter_cons, hm]; rfl
                  rw [upd_upd, e2, List.map_append]; rfl
              | true =>
                have e2 : ([c].filter fun c => !inAZ c) = [] := by rw [List.filter_cons, hm]; rfl
                refine iteF ?_
                rw [e2, List.append_nil]
            have d1 : (!decide (([c] : List Nat) < (Str.ofString "a").cps.toList)) = decide (97 ≤ c) := by
              rw [ea, lt_one]
              by_cases h : 97 ≤ c
              · rw [decide_eq_true h, decide_eq_false (by omega)]; rfl
              · rw [decide_eq_false h, decide_eq_true (by omega)]; rfl
            have d2 : (!decide ((Str.ofString "z").cps.toList < ([c] : List Nat))) = decide (c ≤ 122) := by
              rw [ez, lt_one]
              by_cases h : c ≤ 122
              · rw [decide_eq_true h, decide_eq_false (by omega)]; rfl
              · rw [decide_eq_false h, decide_eq_true (by omega)]; rfl
            refine ite2 (fun h1 => ?_) (fun h1 => ?_)
            · refine ⟨_, _, rfl, rfl, _, rfl, step _ ?_⟩
              have h1' : (!decide (([c] : List Nat) < (Str.ofString "a").cps.toList)) = true := h1
              rw [d1] at h1'
              show (!decide ((Str.ofString "z").cps.toList < ([c] : List Nat))) = inAZ c
              rw [d2]
              unfold inAZ
              rw [h1']; rfl
            · refine ⟨_, rfl, step _ ?_⟩
              have h1' : ¬ (!decide (([c] : List Nat) < (Str.ofString "a").cps.toList)) = true := h1
              rw [d1] at h1'
              have h2 : decide (97 ≤ c) = false := by simpa using h1'
              unfold inAZ
              rw [h2]; rfl
          · rintro H1 rfl
            have tk : z.cps.toList.take z.cps.size = z.cps.toList := List.take_of_length_le (by rw [Array.length_toList]; exact Nat.le_refl _)
            rw [tk]
            refine ⟨Nat.zero_le _, fun p hp => ?_⟩
            have nDp : D ≠ p := fun e => by rw [← e, upd_same] at hp; cases hp
            have hp0 : H p = none := by rw [upd_ne (Ne.symm nDp)] at hp; exact hp
            have okl : ((z.cps.toList.filter fun c => !inAZ c).map fun c => V.str ⟨#[c]⟩).all okF = true := by
              rw [List.all_eq_true]
              intro v hv
              obtain ⟨c, hc, rfl⟩ := List.mem_map.mp hv
              have := hA c (List.mem_filter.mp hc).1
              exact Asc.ok (z := ⟨#[c]⟩) fun d hd => by
                have : d = c := by simpa using hd
                omega
            have em : ((z.cps.toList.filter fun c => !inAZ c).map fun c => V.str ⟨#[c]⟩).isEmpty = z.cps.toList.all inAZ := by
              rw [← filter_empty, List.isEmpty_map]
            have s2 : Same H (upd (upd H D (.lst ((z.cps.toList.filter fun c => !inAZ c).map fun c => V.str ⟨#[c]⟩))) p (.lst [])) := (Same.upd hD).trans (Same.upd hp)
            refine ne_nil (SqL.of (by rw [upd_ne nDp, upd_same])) (SqL.of upd_same) okl ?_
            rw [em]
            refine ⟨_, rfl, ?_⟩
            revert s2
            generalize upd (upd H D (.lst ((z.cps.toList.filter fun c => !inAZ c).map fun c => V.str ⟨#[c]⟩))) p (.lst []) = H2
            intro s2
            refine ite2 (fun h => ?_) (fun h => ?_)
            · refine no false ?_ _ s2
              have h' : z.cps.toList.all inAZ = false := by simpa using h
              rw [e0, h']; rfl
            · have h' : z.cps.toList.all inAZ = true := by simpa using h
              rw [h', Bool.true_and] at e0
              refine ⟨_, rfl, _, _, rfl, ⟨hzl, rfl⟩, 1, _, rfl, ⟨by decide, by decide, by omega, by omega⟩, fun D2 hD2 => ?_⟩
              have en : (((z.length : Nat) : Int) - 1).toNat = z.length - 1 := by omega
              rw [en]
              refine lc_range (lo := 1) (n := z.length - 1) (fun i H' => H' = upd H2 D2 (.lst (((List.range i).filter fun j => !decide (z.cps.toList.getD j 0 < z.cps.toList.getD (j + 1) 0)).map fun j : Nat => V.int (1 + (j : Int))))) rfl ?_ ?_
              · rintro i H1 hi rfl
                have hi1 : i < z.cps.toList.length := by rw [Array.length_toList]; unfold Str.length at hi; omega
                have hi2 : i + 1 < z.cps.toList.length := by rw [Array.length_toList]; unfold Str.length at hi; omega
                have g1 : z.cps.toList[i]? = some (z.cps.toList.getD i 0) := by rw [List.getD_eq_getElem?_getD, List.getElem?_eq_getElem hi1]; rfl
                have g2 : z.cps.toList[i + 1]? = some (z.cps.toList.getD (i + 1) 0) := by rw [List.getD_eq_getElem?_getD, List.getElem?_eq_getElem hi2]; rfl
                have e1 : (1 : Int) + (i : Int) - 1 = ((i : Nat) : Int) := by omega
                have e2 : (1 : Int) + (i : Int) = ((i + 1 : Nat) : Int) := by omega
                refine ⟨rfl, _, rfl, _, rfl, _, _, rfl, rfl, z, _, _, rfl, rfl, hzl, (by rw [e1]; exact atI_nat g1), _, rfl, _, rfl, z, _, _, rfl, rfl, hzl, (by rw [e2]; exact atI_nat g2), _, _, rfl, rfl, _, rfl, ?_⟩
                have d3 : decide ((([z.cps.toList.getD i 0] : List Nat)) < [z.cps.toList.getD (i + 1) 0]) = decide (z.cps.toList.getD i 0 < z.cps.toList.getD (i + 1) 0) := lt_one _ _
                show if (!decide ((([z.cps.toList.getD i 0] : List Nat)) < [z.cps.toList.getD (i + 1) 0])) = true then _ else _
                rw [d3, List.range_succ, List.filter_append]
                cases hm : decide (z.cps.toList.getD i 0 < z.cps.toList.getD (i + 1) 0) with
                | false =>
                  refine iteT ⟨_, rfl, _, upd_same, ?_, ?_⟩
                  · rw [List.length_map]
                    exact small5 (Nat.le_trans (List.length_filter_le _ _) (by rw [List.length_range]; omega))
                  · have e3 : ([i].filter fun j => !decide (z.cps.toList.getD j 0 < z.cps.toList.getD (j + 1) 0)) = [i] := by rw [List.filter_cons, hm]; rfl
                    rw [upd_upd, e3, List.map_append]; rfl
                | true =>
                  have e3 : ([i].filter fun j => !decide (z.cps.toList.getD j 0 < z.cps.toList.getD (j + 1) 0)) = [] := by rw [List.filter_cons, hm]; rfl
                  refine iteF ?_
                  rw [e3, List.append_nil]
              · rintro H1 rfl
                refine ⟨Nat.zero_le _, fun q hq => ?_⟩
                have nDq : D2 ≠ q := fun e => by rw [← e, upd_same] at hq; cases hq
                have okl2 : (((List.range (z.length - 1)).filter fun j => !decide (z.cps.toList.getD j 0 < z.cps.toList.getD (j + 1) 0)).map fun j : Nat => V.int (1 + (j : Int))).all okF = true := by
                  rw [List.all_eq_true]
                  intro v hv
                  obtain ⟨c, hc, rfl⟩ := List.mem_map.mp hv
                  rfl
                have em2 : (((List.range (z.length - 1)).filter fun j => !decide (z.cps.toList.getD j 0 < z.cps.toList.getD (j + 1) 0)).map fun j : Nat => V.int (1 + (j : Int))).isEmpty = isLetB z := by
                  rw [List.isEmpty_map, filter_empty, e0]
                  unfold risesB
                  rw [Array.length_toList]; rfl
                refine eq_nil (SqL.of (by rw [upd_ne nDq, upd_same])) (SqL.of upd_same) okl2 ?_
                rw [em2]
                exact k _ (s2.trans ((Same.upd hD2).trans (Same.upd hq)))
      · refine ⟨_, rfl, ?_⟩
        refine iteT ?_
        have a' : ¬ ((1 : Int) < ((z.length : Nat) : Int)) := by simpa using a
        exact no false (out (by omega)) H (Same.refl H)
end
end K01

set_option Elab.async false
set_option linter.all false
set_option maxRecDepth 100000
set_option maxHeartbeats 2000000
namespace K01
open PySem PySem.Spec PyProof.Rows L2 Ami
section
variable {P : Program} {w : World} {K : PySem.W.Frag} {mg : Str → Option Value} {base : Heap}
theorem scIsRow : FnScope ["_law_signs_here", "_law_it", "_law_sign"] ["_law_signs_here", "_law_it"] (defScope sIsRow) := ⟨rfl, rfl, rfl, by decide +kernel, rfl, by decide +kernel, by decide +kernel⟩
theorem ok_isRow {f : Addr} {fd : FuncData} (F : Fun K "_law_is_row" "_law_is_row" sIsRow f fd) (T : Blt mg) : FnOk P w K mg base CX0 1 f fd ["_law_signs_here", "_law_it"] (spIsWord K) := by
  refine F.ok scIsRow (fun vs H Q E h => ?_) (fun cdv A outer s H vs Q E hr h => ?_)
  · obtain ⟨ls, x, o, rfl, _⟩ := h
    rfl
  · obtain ⟨ls, x, o, rfl, ho, k⟩ := h
    have hu := hr.units
    refine ⟨_, pss_one (ps_ret (pe_and (pe_callB call_isi (by rfl) T.isi (by decide +kernel) (pa_cons (pv 1) (pa_cons (pe_bltn (v := .ty "str") (by rfl) T.str (by decide +kernel) rfl) pa_nil)))
      (pe_one (pe_cmpR (op_eqD hu) (pe_lc (own := [("_law_sign", 2)]) (g := gName 2) rfl scIsRow.nd (pi_str (pv 1)) (blkOk_by (own := [("_law_sign", 2)]) (N := ["_law_signs_here", "_law_it", "_law_sign"]) (sc := defScope sIsRow) (by decide +kernel))
        (fun _ _ _ _ _ => pg_name (i := 2) scIsRow.nd rfl (Or.inl rfl)) (fun _ _ _ _ _ => pts_one (pt_cmpR op_notIn_sign (pv 2) (pv 0) rfl)) (fun _ _ _ _ _ => pv 2)) (pe_lst pa_nil) (nomark _))))), ?_⟩
    obtain ⟨t, ht, hk⟩ := ho.ty
    refine ⟨_, rfl, x, .ty "str", t, .type "str", _, rfl, .ty _, ht, hk, _, rfl, ?_⟩
    cases o with
    | none => exact iteF (k H (Same.refl H))
    | some z =>
      obtain ⟨rfl, hz, hA⟩ := ho
      refine iteT ?_
      refine ⟨_, rfl, z, rfl, fun D hD => lc_it walk_str (fun i H' => H' = upd H D (.lst (((z.cps.toList.take i).filter fun c => !decide (c ∈ ls.cps.toList)).map fun c => V.str ⟨#[c]⟩))) rfl (fun _ _ _ _ => trivial) ?_ ?_⟩
      · rintro i y H1 H2 hi rfl ⟨rfl, c, hc, rfl⟩
        have e : z.cps.toList[i]? = some c := by rw [Array.getElem?_toList]; exact hc
        refine ⟨rfl, _, rfl, _, rfl, c, ls, rfl, rfl, _, rfl, ?_⟩
        rw [Ami.take_next e, List.filter_append]
        cases hm : decide (c ∈ ls.cps.toList) with
        | false =>
          refine iteT ⟨_, rfl, _, upd_same, ?_, ?_⟩
          · rw [List.length_map]
            exact small5 (Nat.le_trans (List.length_filter_le _ _) (Nat.le_trans (List.length_take_le _ _) (Nat.le_trans (Nat.le_of_lt hi) hz)))
          · have e2 : ([c].filter fun c => !decide (c ∈ ls.cps.toList)) = [c] := by rw [List.filter_cons, hm]; rfl
            rw [upd_upd, e2, List.map_append]; rfl
        | true =>
          have e2 : ([c].filter fun c => !decide (c ∈ ls.cps.toList)) = [] := by rw [List.filter_cons, hm]; rfl
          refine iteF ?_
          rw [e2, List.append_nil]
      · rintro H1 rfl
        have tk : z.cps.toList.take z.cps.size = z.cps.toList := List.take_of_length_le (by rw [Array.length_toList]; exact Nat.le_refl _)
        rw [tk]
        refine ⟨Nat.zero_le _, fun p hp => ?_⟩
        have nDp : D ≠ p := fun e => by rw [← e, upd_same] at hp; cases hp
        have okl : ((z.cps.toList.filter fun c => !decide (c ∈ ls.cps.toList)).map fun c => V.str ⟨#[c]⟩).all okF = true := by
          rw [List.all_eq_true]
          intro v hv
          obtain ⟨c, hc, rfl⟩ := List.mem_map.mp hv
          have := hA c (List.mem_filter.mp hc).1
          exact Asc.ok (z := ⟨#[c]⟩) fun d hd => by
            have : d = c := by simpa using hd
            omega
        have em : ((z.cps.toList.filter fun c => !decide (c ∈ ls.cps.toList)).map fun c => V.str ⟨#[c]⟩).isEmpty = isWordB ls z := by
          rw [List.isEmpty_map, filter_empty]; rfl
        refine eq_nil (SqL.of (by rw [upd_ne nDp, upd_same])) (SqL.of upd_same) okl ?_
        rw [em]
        exact k _ ((Same.upd hD).trans (Same.upd hp))
end
end K01

set_option Elab.async false
set_option linter.all false
set_option maxRecDepth 100000
set_option maxHeartbeats 4000000
namespace Ami
open PySem PySem.Spec PyProof.Rows L2
/-- a value that the law looks at: a text or none; it can be shown -/
def Thing (K : PySem.W.Frag) (x : V) (H : Hp) : Prop := ∃ (o : Option Str) (dt : PyData), IsT K H x o ∧ Dq K H x dt ∧ dictFlat dt = true ∧ dt.showable = true ∧ dt.shown.length ≤ sizeLine ∧ dt.depth ≤ 50
theorem thing_str {K : PySem.W.Frag} {H : Hp} {z : Str} (hl : z.length ≤ 100000) (hA : Asc z) : Thing K (.str z) H :=
  ⟨some z, .str z, ⟨rfl, hl, hA⟩, .str z, rfl, rfl, hA.repr hl, Nat.zero_le _⟩
theorem thing_non {K : PySem.W.Frag} {H : Hp} : Thing K .non H := ⟨none, .none, ⟨_, .base .non, kit_ty (by decide +kernel)⟩, .non, rfl, rfl, by decide +kernel, Nat.zero_le _⟩
theorem thing_bl {K : PySem.W.Frag} {H : Hp} (b : Bool) : Thing K (.bl b) H := ⟨none, .bool b, ⟨_, .base (.bl b), kit_ty (by decide +kernel)⟩, .bl b, rfl, rfl, by cases b <;> decide +kernel, Nat.zero_le _⟩
theorem thing_int {K : PySem.W.Frag} {H : Hp} (i : Int) (h : i.natAbs.log2 < 1920) : Thing K (.int i) H := ⟨none, .int i, ⟨_, .base (.int i), kit_ty (by decide +kernel)⟩, .int i, rfl, decide_eq_true h, int_text_fits h, Nat.zero_le _⟩
theorem thing_lst {K : PySem.W.Frag} {H : Hp} {a : Addr} {xs : List V} (ha : H a = some (.lst xs)) (h : xs.all okF = true) (h1 : (PyData.list (xs.map fD)).hasDict = false) (h2 : (PyData.list (xs.map fD)).showable = true) (h3 : (PyData.list (xs.map fD)).shown.length ≤ sizeLine) : Thing K (.ref a) H :=
  ⟨none, .list (xs.map fD), ⟨_, .base (.lst ha), kit_ty (by decide +kernel)⟩, .lst (SqL.of ha) (dqAll_flat h), by show (!(PyData.list (xs.map fD)).hasDict) = true; rw [h1]; rfl, h2, h3, by
    show PyData.depthAll (xs.map fD) + 1 ≤ 50
    rw [depthAll_flat]; decide⟩
theorem thing_tup {K : PySem.W.Frag} {H : Hp} {a : Addr} {xs : List V} (ha : H a = some (.tup xs)) (h : xs.all okF = true) (h1 : (PyData.tuple (xs.map fD)).hasDict = false) (h2 : (PyData.tuple (xs.map fD)).showable = true) (h3 : (PyData.tuple (xs.map fD)).shown.length ≤ sizeLine) : Thing K (.ref a) H :=
  ⟨none, .tuple (xs.map fD), ⟨_, .base (.tup ha), kit_ty (by decide +kernel)⟩, .tup (SqT.of ha) (dqAll_flat h), by show (!(PyData.tuple (xs.map fD)).hasDict) = true; rw [h1]; rfl, h2, h3, by
    show PyData.depthAll (xs.map fD) + 1 ≤ 50
    rw [depthAll_flat]; decide⟩
theorem thing_dct0 {K : PySem.W.Frag} {H : Hp} {a : Addr} (ha : H a = some (.dK [])) : Thing K (.ref a) H :=
  ⟨none, .dict [], ⟨_, .base (.dK ha), kit_ty (by decide +kernel)⟩, .dct ha .nil .nil, rfl, rfl, by decide +kernel, by decide⟩
theorem thing_dct1 {K : PySem.W.Frag} {H : Hp} {a : Addr} {x y : Str} (ha : H a = some (.dK [(.inr x, .str y)])) (h3 : (PyData.dict [(.str x, .str y)]).shown.length ≤ sizeLine) : Thing K (.ref a) H :=
  ⟨none, .dict [(.str x, .str y)], ⟨_, .base (.dK ha), kit_ty (by decide +kernel)⟩, .dct ha (.cons (.str x) .nil) (.cons (.str y) .nil), rfl, rfl, h3, by show max (max 0 0) 0 + 1 ≤ 50; decide⟩
theorem ascLit {z : Str} (h : z.cps.toList.all (fun c => decide (c < 128)) = true) : Asc z := fun c hc => of_decide_eq_true (List.all_eq_true.mp h c hc)
theorem lit {K : PySem.W.Frag} {H : Hp} {z : Str} (h : (decide (z.length ≤ 100000) && z.cps.toList.all (fun c => decide (c < 128))) = true) : Thing K (.str z) H := by
  rw [Bool.and_eq_true] at h
  exact thing_str (of_decide_eq_true h.1) (ascLit h.2)
/-- the twenty-nine values -/
def oddV (t0 t1 l1 d0 d1 t2 : Addr) : List V := [.non, .bl true, .bl false, .int 0, .int 2, .int (10 ^ 39), .str "", .str "a", .str "ab", .str "ba", .str "aa", .str "abcde", .str "abcdef", .str "Ab", .str "a1", .str "az", .str "a b",
  .str "yz", .str "abc\n", .ref t0, .ref t1, .ref l1, .ref d0, .ref d1, .ref t2, .str (repS "ab" 900), .str "zyxwv", .str "~", .str "az`"]
/-- a drawn value -/
def spOdd (K : PySem.W.Frag) : Sp := fun vs H Q _ => ∃ (d c : Addr) (n : Nat), vs = [.ref d] ∧ n + 2 < 1000000 ∧ DeckAt H d c n ∧
  ∀ (H' : Hp) (y : V), Stay d c (Thing K y) H' → DeckAt H' d c (n + 1) → But d c H H' → Q y H'
end Ami
namespace K01
open PySem PySem.Spec PyProof.Rows L2 Ami
section
variable {P : Program} {w : World} {K : PySem.W.Frag} {mg : Str → Option Value} {base : Heap}
theorem scOdd : FnScope ["_law_deck_here", "_law_some"] ["_law_deck_here"] (defScope sOdd) := ⟨rfl, rfl, rfl, by decide +kernel, rfl, by decide +kernel, by decide +kernel⟩
theorem ok_odd {f f1 f2 : Addr} {fd fd1 fd2 : FuncData} (F : Fun K "_law_odd" "_law_odd" sOdd f fd) (T : Blt mg) (D1 : DefAt K mg "_law_draw" sDraw ["_law_deck_here", "_law_bound"] f1 fd1) (D2 : DefAt K mg "_law_pick" sPick ["_law_deck_here", "_law_some"] f2 fd2) :
    FnOk P w K mg base CX0 3 f fd ["_law_deck_here"] (spOdd K) := by
  have G2 : FnOk P w K mg base CX0 2 f2 fd2 ["_law_deck_here", "_law_some"] (spPick K) := ok_pick D2.F T D1
  refine F.ok scOdd (fun vs H Q E h => ?_) (fun cdv A outer s H vs Q E hr h => ?_)
  · obtain ⟨d, c, n, rfl, _⟩ := h
    rfl
  · obtain ⟨d, c, n, rfl, hn, D, k⟩ := h
    refine ⟨_, pss_cons (ps_set (i := 1) scOdd.nd rfl (Or.inl rfl) (pe_lst (pa_cons pe_non (pa_cons pe_bl (pa_cons pe_bl (pa_cons pe_int (pa_cons pe_int (pa_cons (pe_op op_pow pe_int pe_int)
        (pa_cons pe_str (pa_cons pe_str (pa_cons pe_str (pa_cons pe_str (pa_cons pe_str (pa_cons pe_str (pa_cons pe_str (pa_cons pe_str (pa_cons pe_str (pa_cons pe_str (pa_cons pe_str pa_nil)))))))))))))))))))
      (pss_cons (ps_set (i := 1) scOdd.nd rfl (Or.inl rfl) (pe_op op_cat (pv 1) (pe_lst (pa_cons pe_str (pa_cons pe_str (pa_cons (pe_tup pa_nil) (pa_cons (pe_tup (pa_cons pe_str (pa_cons pe_str pa_nil))) (pa_cons (pe_lst (pa_cons pe_str (pa_cons pe_str pa_nil)))
        (pa_cons pe_dnewK (pa_cons (pe_disp (pps_cons pe_str pe_str pps_nil) (by rfl) (by rfl) (fun z => by cases z) (by decide)) (pa_cons (pe_tup (pa_cons pe_str pa_nil)) (pa_cons (pe_op op_repS pe_str pe_int) (pa_cons pe_str (pa_cons pe_str (pa_cons pe_str pa_nil)))))))))))))))
      (pss_one (ps_ret (pc D2 G2 hr (pa_cons (pv 0) (pa_cons (pv 1) pa_nil)))))), ?_⟩
    refine ⟨_, _, rfl, rfl, pow39, (by show 17 ≤ sizeLine; decide), fun l hl => ⟨_, rfl, ?_⟩⟩
    refine ⟨Nat.zero_le _, fun t0 h0 => ⟨(by show 2 ≤ sizeLine; decide), fun t1 h1 => ⟨(by show 2 ≤ sizeLine; decide), fun l1 h2 => fun d0 h3 d1 h4 => ?_⟩⟩⟩
    refine ⟨upd_same, [(.inr (Str.ofString "a"), .str (Str.ofString "b"))], rfl, (by decide), ?_⟩
    rw [upd_upd]
    refine ⟨(by show 1 ≤ sizeLine; decide), fun t2 h5 => ?_⟩
    refine ⟨Str.ofString "ab", 900, rfl, rfl, (by decide +kernel), (by decide), (by show 12 ≤ sizeLine; decide), fun l2 h6 => ?_⟩
    refine ⟨l, l2, _, _, rfl, rfl, Same.upd h6 _ _ (Same.upd h5 _ _ (Same.upd h4 _ _ (Same.upd h3 _ _ (Same.upd h2 _ _ (Same.upd h1 _ _ (Same.upd h0 _ _ upd_same)))))), upd_same, (by show 29 ≤ sizeLine; decide), fun l3 h7 => ?_⟩
    · refine ⟨_, rfl, _, rfl, d, c, n, _, oddV t0 t1 l1 d0 d1 t2, rfl, ?hne, ?hlen, by omega, (((((((D.new hl).new h0).new h1).new h2).new h3).new h4).new h5 |>.new h6).new h7, ?stay, ?kk⟩
      case stay =>
        obtain ⟨nd, nc⟩ := ((((((((D.new hl).new h0).new h1).new h2).new h3).new h4).new h5).new h6).ned h7
        exact fun H' B => .lst (SqL.of (B l3 _ nd nc upd_same))
      case hne => exact List.cons_ne_nil _ _
      case hlen => show 29 < 1073741824; decide
      case kk =>
        intro H7 y hy D7 B7
        refine k H7 y ?_ D7 ?_
        · have st : ∀ (p : Addr) (o : HO), p ≠ d → p ≠ c → H7 p = some o → ∀ H', But d c H7 H' → H' p = some o := fun p o n1 n2 e H' B => B p o n1 n2 e
          obtain ⟨a0, b0⟩ := (D.new hl).ned h0
          obtain ⟨a1, b1⟩ := ((D.new hl).new h0).ned h1
          obtain ⟨a2, b2⟩ := (((D.new hl).new h0).new h1).ned h2
          obtain ⟨a3, b3⟩ := ((((D.new hl).new h0).new h1).new h2).ned h3
          obtain ⟨a4, b4⟩ := (((((D.new hl).new h0).new h1).new h2).new h3).ned h4
          obtain ⟨a5, b5⟩ := ((((((D.new hl).new h0).new h1).new h2).new h3).new h4).ned h5
          have e5 := B7 t2 _ a5 b5 (Same.upd h7 _ _ (Same.upd h6 _ _ upd_same))
          have e4 := B7 d1 _ a4 b4 (Same.upd h7 _ _ (Same.upd h6 _ _ (Same.upd h5 _ _ upd_same)))
          have e3 := B7 d0 _ a3 b3 (Same.upd h7 _ _ (Same.upd h6 _ _ (Same.upd h5 _ _ (Same.upd h4 _ _ upd_same))))
          have e2 := B7 l1 _ a2 b2 (Same.upd h7 _ _ (Same.upd h6 _ _ (Same.upd h5 _ _ (Same.upd h4 _ _ (Same.upd h3 _ _ upd_same)))))
          have e1 := B7 t1 _ a1 b1 (Same.upd h7 _ _ (Same.upd h6 _ _ (Same.upd h5 _ _ (Same.upd h4 _ _ (Same.upd h3 _ _ (Same.upd h2 _ _ upd_same))))))
          have e0 := B7 t0 _ a0 b0 (Same.upd h7 _ _ (Same.upd h6 _ _ (Same.upd h5 _ _ (Same.upd h4 _ _ (Same.upd h3 _ _ (Same.upd h2 _ _ (Same.upd h1 _ _ upd_same)))))))
          clear k D7 B7 D
          intro H' B
          have g0 := st _ _ a0 b0 e0 H' B
          have g1 := st _ _ a1 b1 e1 H' B
          have g2 := st _ _ a2 b2 e2 H' B
          have g3 := st _ _ a3 b3 e3 H' B
          have g4 := st _ _ a4 b4 e4 H' B
          have g5 := st _ _ a5 b5 e5 H' B
          simp only [oddV, List.mem_cons, List.not_mem_nil, or_false] at hy
          rcases hy with rfl | rfl | rfl | rfl | rfl | rfl | rfl | rfl | rfl | rfl | rfl | rfl | rfl | rfl | rfl | rfl | rfl | rfl | rfl | rfl | rfl | rfl | rfl | rfl | rfl | rfl | rfl | rfl | rfl
          · exact thing_non
          · exact thing_bl _
          · exact thing_bl _
          · exact thing_int _ (by decide +kernel)
          · exact thing_int _ (by decide +kernel)
          · exact thing_int _ (by decide +kernel)
          · exact lit (by decide +kernel)
          · exact lit (by decide +kernel)
          · exact lit (by decide +kernel)
          · exact lit (by decide +kernel)
          · exact lit (by decide +kernel)
          · exact lit (by decide +kernel)
          · exact lit (by decide +kernel)
          · exact lit (by decide +kernel)
          · exact lit (by decide +kernel)
          · exact lit (by decide +kernel)
          · exact lit (by decide +kernel)
          · exact lit (by decide +kernel)
          · exact lit (by decide +kernel)
          · exact thing_tup g0 (by decide +kernel) (by decide +kernel) (by decide +kernel) (by decide +kernel)
          · exact thing_tup g1 (by decide +kernel) (by decide +kernel) (by decide +kernel) (by decide +kernel)
          · exact thing_lst g2 (by decide +kernel) (by decide +kernel) (by decide +kernel) (by decide +kernel)
          · exact thing_dct0 g3
          · exact thing_dct1 g4 (by decide +kernel)
          · exact thing_tup g5 (by decide +kernel) (by decide +kernel) (by decide +kernel) (by decide +kernel)
          · exact lit (by decide +kernel)
          · exact lit (by decide +kernel)
          · exact lit (by decide +kernel)
          · exact lit (by decide +kernel)
        · exact (((((((((But.refl d c H).new hl).new h0).new h1).new h2).new h3).new h4).new h5).new h6 |>.new h7).trans B7
end
end K01

set_option Elab.async false
set_option linter.all false
set_option maxRecDepth 100000
set_option maxHeartbeats 4000000
namespace Ami
open PySem PySem.Spec PyProof.Rows L2
/-- a text put otherwise -/
def spBent : Sp := fun vs H Q _ => ∃ (d c : Addr) (n : Nat) (it : Str), vs = [.ref d, .str it] ∧ n + 3 < 1000000 ∧ DeckAt H d c n ∧ it.length ≤ 5000 ∧ Asc it ∧
  ∀ (H' : Hp) (n' : Nat) (z : Str), z.length ≤ 3 * it.length + 4 → Asc z → n' ≤ n + 3 → DeckAt H' d c n' → But d c H H' → Q (.str z) H'
def Bit (y : V) : Prop := ∃ z : Str, y = .str z ∧ z.length ≤ 2 ∧ Asc z
theorem bits_of {zs : List Str} (h : (zs.all fun z => decide (z.length ≤ 2) && z.cps.toList.all (fun c => decide (c < 128))) = true) : ∀ y ∈ zs.map V.str, Bit y := by
  intro y hy
  obtain ⟨z, hz, rfl⟩ := List.mem_map.mp hy
  have q := List.all_eq_true.mp h z hz
  rw [Bool.and_eq_true] at q
  exact ⟨z, rfl, of_decide_eq_true q.1, ascLit q.2⟩
end Ami
namespace K01
open PySem PySem.Spec PyProof.Rows L2 Ami
section
variable {P : Program} {w : World} {K : PySem.W.Frag} {mg : Str → Option Value} {base : Heap}
theorem scBent : FnScope ["_law_deck_here", "_law_it", "_law_at", "_law_way"] ["_law_deck_here", "_law_it"] (defScope sBent) := ⟨rfl, rfl, rfl, by decide +kernel, rfl, by decide +kernel, by decide +kernel⟩
theorem ok_bent {f f1 f2 : Addr} {fd fd1 fd2 : FuncData} (F : Fun K "_law_bent" "_law_bent" sBent f fd) (T : Blt mg) (D1 : DefAt K mg "_law_draw" sDraw ["_law_deck_here", "_law_bound"] f1 fd1) (D2 : DefAt K mg "_law_pick" sPick ["_law_deck_here", "_law_some"] f2 fd2) :
    FnOk P w K mg base CX0 3 f fd ["_law_deck_here", "_law_it"] spBent := by
  have G1 : FnOk P w K mg base CX0 1 f1 fd1 ["_law_deck_here", "_law_bound"] spDraw := ok_draw D1.F T
  have G2 : FnOk P w K mg base CX0 2 f2 fd2 ["_law_deck_here", "_law_some"] (spPick K) := ok_pick D2.F T D1
  refine F.ok scBent (fun vs H Q E h => ?_) (fun cdv A outer s H vs Q E hr h => ?_)
  · obtain ⟨d, c, n, it, rfl, _⟩ := h
    rfl
  · obtain ⟨d, c, n, it, rfl, hn, D, hl, hA, k⟩ := h
    have hr1 := hr.mono (j := 1) (by decide)
    refine ⟨_, pss_cons (ps_par (i := 2) (j := 3) rfl scBent.nd rfl rfl (by decide) rfl rfl
        (pa_cons (pc D1 G1 hr1 (pa_cons (pv 0) (pa_cons (pe_op op_add (pe_callB call_len (by rfl) T.len PySem.boot_len (pa_cons (pv 1) pa_nil)) pe_int) pa_nil))) (pa_cons (pc D1 G1 hr1 (pa_cons (pv 0) (pa_cons pe_int pa_nil))) pa_nil)) (by rfl))
      (pss_cons (ps_if (pt_cmpR op_eq (pv 3) pe_int (nomark _)) (pss_one (ps_ret (pe_op op_add_str (pe_slice sl_str (pv 1) po_none (po_some (pv 2))) (pe_slice sl_str (pv 1) (po_some (pe_op op_add (pv 2) pe_int)) po_none)))) pss_nil)
      (pss_cons (ps_if (pt_cmpR op_eq (pv 3) pe_int (nomark _)) (pss_one (ps_ret (pe_op op_add_str (pe_slice sl_str (pv 1) po_none (po_some (pe_op op_add (pv 2) pe_int))) (pe_slice sl_str (pv 1) (po_some (pv 2)) po_none)))) pss_nil)
      (pss_cons (ps_if (pt_cmpR op_eq (pv 3) pe_int (nomark _)) (pss_one (ps_ret (pe_op op_add_str (pe_op op_add_str (pe_slice sl_str (pv 1) po_none (po_some (pv 2)))
          (pe_revS (pe_slice sl_str (pv 1) (po_some (pv 2)) (po_some (pe_op op_add (pv 2) pe_int))))) (pe_slice sl_str (pv 1) (po_some (pe_op op_add (pv 2) pe_int)) po_none)))) pss_nil)
      (pss_one (ps_ret (pe_op op_add_str (pe_op op_add_str (pe_slice sl_str (pv 1) po_none (po_some (pv 2)))
          (pc D2 G2 hr (pa_cons (pv 0) (pa_cons (pe_op op_cat (pe_callTy (cr_listStr rfl) (by rfl) T.list (by decide +kernel) (pa_cons pe_str pa_nil)) (pe_lst (pa_cons pe_str (pa_cons pe_str pa_nil)))) pa_nil))))
          (pe_slice sl_str (pv 1) (po_some (pe_op op_sub (pe_op op_add (pv 2) (pv 3)) pe_int)) po_none))))))), ?_⟩
    have hs : it.length ≤ sizeLine := Nat.le_of_lt (small5 (by omega))
    have cl : ∀ lo hi, (cutS it lo hi).length ≤ it.length := fun lo hi => cutS_length it lo hi
    have cA : ∀ lo hi, Asc (cutS it lo hi) := fun lo hi => hA.cut lo hi
    have big : ∀ m, m ≤ 100000 → m ≤ sizeLine := fun m h => Nat.le_of_lt (small5 h)
    refine ⟨_, rfl, _, rfl, _, _, rfl, ⟨hs, rfl⟩, _, _, rfl, rfl, ?_⟩
    refine ⟨d, c, n, _, rfl, by omega, by omega, by omega, D, fun H1 r h0 h1 D1' B1 => ?_⟩
    refine ⟨_, rfl, d, c, _, _, rfl, by decide, by decide, by omega, D1', fun H2 q g0 g1 D2' B2 => ⟨_, _, rfl, ?_⟩⟩
    have B := B1.trans B2
    refine ⟨_, rfl, rfl, _, rfl, ?_⟩
    refine ite2 (fun _ => ?_) (fun _ => ?_)
    · refine ⟨_, rfl, _, rfl, _, rfl, it, rfl, hs, _, rfl, _, rfl, _, _, rfl, rfl, _, rfl, it, rfl, hs, _, _, rfl, rfl, ?_, ?_⟩
      · have := cl none (some r); have := cl (some (r + 1)) none; exact big _ (by omega)
      · refine k _ _ _ ?_ ((cA _ _).append (cA _ _)) (by omega) D2' B
        have := cl none (some r); have := cl (some (r + 1)) none; rw [Ami.append_length]; omega
    refine ⟨_, rfl, rfl, _, rfl, ?_⟩
    refine ite2 (fun _ => ?_) (fun _ => ?_)
    · refine ⟨_, rfl, _, rfl, _, _, rfl, rfl, _, rfl, it, rfl, hs, _, rfl, _, rfl, _, rfl, it, rfl, hs, _, _, rfl, rfl, ?_, ?_⟩
      · have := cl none (some (r + 1)); have := cl (some r) none; exact big _ (by omega)
      · refine k _ _ _ ?_ ((cA _ _).append (cA _ _)) (by omega) D2' B
        have := cl none (some (r + 1)); have := cl (some r) none; rw [Ami.append_length]; omega
    refine ⟨_, rfl, rfl, _, rfl, ?_⟩
    refine ite2 (fun _ => ?_) (fun _ => ?_)
    · refine ⟨_, rfl, _, rfl, _, rfl, it, rfl, hs, _, rfl, _, rfl, _, rfl, _, rfl, _, _, rfl, rfl, _, rfl, it, rfl, hs, _, rfl, big _ ?_, _, _, rfl, rfl, ?_, _, rfl, _, rfl, _, _, rfl, rfl, _, rfl, it, rfl, hs, _, _, rfl, rfl, ?_, ?_⟩
      · have := cl (some r) (some (r + 2)); omega
      · have := cl none (some r); have := cl (some r) (some (r + 2)); rw [revS_length]; exact big _ (by omega)
      · have := cl none (some r); have := cl (some r) (some (r + 2)); have := cl (some (r + 2)) none; rw [Ami.append_length, revS_length]; exact big _ (by omega)
      · refine k _ _ _ ?_ (((cA _ _).append (cA _ _).rev).append (cA _ _)) (by omega) D2' B
        have := cl none (some r); have := cl (some r) (some (r + 2)); have := cl (some (r + 2)) none; rw [Ami.append_length, Ami.append_length, revS_length]; omega
    refine ⟨_, rfl, _, rfl, _, rfl, it, rfl, hs, _, rfl, _, rfl, by decide, fun p hp => ⟨by show 2 ≤ sizeLine; decide, fun p2 hp2 => ?_⟩⟩
    refine ⟨p, p2, _, _, rfl, rfl, by rw [upd_ne (fun e => by rw [e, upd_same] at hp2; cases hp2)]; exact upd_same, upd_same, by decide, fun p3 hp3 => ?_⟩
    obtain ⟨q1, q2⟩ := ((D2'.new hp).new hp2).ned hp3
    refine ⟨d, c, _, _, _, rfl, ?ne, ?ln, by omega, ((D2'.new hp).new hp2).new hp3, fun H' B' => .lst (SqL.of (B' p3 _ q1 q2 upd_same)), ?kk⟩
    case ne => exact fun e => absurd (congrArg List.length e) (by rw [List.length_append]; exact fun h => by cases h)
    case ln => decide
    case kk =>
      intro H4 y hy D4 B4
      have hy' : Bit y := bits_of (zs := letts (Str.ofString "abcxyzAZ09 ~`{") ++ [Str.ofString "\n", Str.ofString "ab"]) (by decide +kernel) y (by rw [List.map_append]; exact hy)
      obtain ⟨z, rfl, zl, zA⟩ := hy'
      refine ⟨_, _, rfl, rfl, ?_, _, rfl, _, rfl, _, rfl, _, _, rfl, rfl, _, _, rfl, rfl, _, rfl, it, rfl, hs, _, _, rfl, rfl, ?_, ?_⟩
      · have := cl none (some r); exact big _ (by omega)
      · have := cl none (some r); have := cl (some (r + q - 3)) none; rw [Ami.append_length]; exact big _ (by omega)
      · refine k _ _ _ ?_ (((cA _ _).append zA).append (cA _ _)) (Nat.le_refl _) D4 (((B.new hp).new hp2).new hp3 |>.trans B4)
        have := cl none (some r); have := cl (some (r + q - 3)) none; rw [Ami.append_length, Ami.append_length]; omega
end
end K01

set_option Elab.async false
set_option linter.all false
set_option maxRecDepth 100000
set_option maxHeartbeats 8000000
namespace Ami
open PySem PySem.Spec PyProof.Rows L2
theorem d2_dep (b : Bool) : (D2b b).depth ≤ 50 := by cases b <;> decide +kernel
theorem IsT.same {K : PySem.W.Frag} {H H' : Hp} (e : Same H H') {x : V} {o : Option Str} (h : IsT K H x o) : IsT K H' x o := by
  cases o with
  | none =>
    obtain ⟨t, ht, k⟩ := h
    exact ⟨t, TyX.same e ht, k⟩
  | some z => exact h
/-- the six rows of letters that stand in the law -/
def six : List Str := ["abcde", "fghij", "klmno", "pqrst", "uvwxy", "xyz"]
theorem six_ok : (six.all fun z => decide (z.length ≤ 5) && z.cps.toList.all (fun c => decide (c < 128)) && isLetB z && isWordB z (repS (revS z) 80) && !isWordB (cutS z (some 1) none) z) = true := by decide +kernel
/-- the twelve values of a turn -/
def tvs (z row b1 b2 b4 : Str) (o1 o2 : V) (p2 p3 : Addr) : List V :=
  [.str z, .str (cutS z none (some 1)), .str (z ++ cutS z (some (-1)) none), .str (revS z), .str row, .str b1, .str b2, .str b4, o1, o2, .ref p2, .ref p3]
theorem tvs_things {K : PySem.W.Frag} {H : Hp} {z row b1 b2 b4 : Str} {o1 o2 : V} {p2 p3 : Addr} (hz : z.length ≤ 5) (zA : Asc z) (hr : row.length ≤ 8) (rA : Asc row) (l1 : b1.length ≤ 1000) (A1 : Asc b1) (l2 : b2.length ≤ 1000) (A2 : Asc b2) (l4 : b4.length ≤ 1000) (A4 : Asc b4)
    (O1 : Thing K o1 H) (O2 : Thing K o2 H) (g2 : H p2 = some (.lst ((letts z).map V.str))) (g3 : H p3 = some (.tup [.str row])) : ∀ y ∈ tvs z row b1 b2 b4 o1 o2 p2 p3, Thing K y H := by
  intro y hy
  simp only [tvs, List.mem_cons, List.not_mem_nil, or_false] at hy
  rcases hy with rfl | rfl | rfl | rfl | rfl | rfl | rfl | rfl | rfl | rfl | rfl | rfl
  · exact thing_str (by omega) zA
  · exact thing_str (by have := cutS_length z none (some 1); omega) (zA.cut _ _)
  · exact thing_str (by have := cutS_length z (some (-1)) none; rw [Ami.append_length]; omega) (zA.append (zA.cut _ _))
  · exact thing_str (by rw [revS_length]; omega) zA.rev
  · exact thing_str (by omega) rA
  · exact thing_str (by omega) A1
  · exact thing_str (by omega) A2
  · exact thing_str (by omega) A4
  · exact O1
  · exact O2
  · exact thing_lst g2 (okF_texts (letts_asc zA)) (noDict_texts _) (showable_texts _) (shownL_texts (letts_asc zA) (by rw [ones_sum, letts_length]; omega))
  · have hA : ∀ w ∈ [row], Asc w := fun w hw => by rw [List.mem_singleton.mp hw]; exact rA
    exact thing_tup (xs := [row].map V.str) g3 (okF_texts hA) (noDict_texts _) (showable_texts _) (shownT_texts hA (by show row.length + 0 + 1 ≤ 1000000; omega))
/-- the law -/
def spLaw (K : PySem.W.Frag) : Sp := fun vs H Q _ => ∃ (a : Addr) (ns : List Int), vs = [.ref a] ∧ SqL K H a (ns.map V.int) ∧ ns.length ≤ 63 ∧ ∀ H', Q (.bl true) H'
end Ami
namespace K01
open PySem PySem.Spec PyProof.Rows L2 Ami
section
variable {P : Program} {w : World} {K : PySem.W.Frag} {mg : Str → Option Value} {base : Heap}
theorem kb_letters {f : Addr} {fd : FuncData} (F : Fun K "is_letters" "is_letters" sLetters f fd) : KBinds K fd ["thing"] ["thing"] g1 g1 := by
  obtain ⟨oc, od, kV, doc, pm, an, cdv, ct, osl, rfl, lk, hcd⟩ := F.ex
  exact ⟨fun s us ws _ hl => match us, ws, hl with | [], [_], _ => .of_eq rfl, g1_rel⟩
theorem kb_word {f : Addr} {fd : FuncData} (F : Fun K "is_word" "is_word" sWord f fd) : KBinds K fd ["letters", "thing"] ["thing", "letters"] g2 g2 := by
  obtain ⟨oc, od, kV, doc, pm, an, cdv, ct, osl, rfl, lk, hcd⟩ := F.ex
  exact ⟨fun s us ws _ hl => match us, ws, hl with | [], [_, _], _ => .of_eq rfl, g2_rel⟩
theorem scLaw : FnScope ["_law_script", "_law_deck_here", "_law_signs_here", "_law_turn", "_law_row", "_law_some", "_law_it", "_law_was", "_law_k"] ["_law_script"] (defScope sLaw) := ⟨rfl, rfl, rfl, by decide +kernel, rfl, by decide +kernel, by decide +kernel⟩
/-- all that the law calls -/
structure Txt (K : PySem.W.Frag) (mg : Str → Option Value) (fk fd fp fs fl fw fi fr fo fb : Addr) (dk dd dp ds dl dw di dr dO db : FuncData) : Prop where
  T : Blt mg
  C : Cst mg
  k : DefAt K mg "_law_deck" sDeck ["_law_script"] fk dk
  d : DefAt K mg "_law_draw" sDraw ["_law_deck_here", "_law_bound"] fd dd
  p : DefAt K mg "_law_pick" sPick ["_law_deck_here", "_law_some"] fp dp
  s : DefAt K mg "_law_signs" sSigns ["_law_deck_here", "_law_top"] fs ds
  l : DefAt K mg "is_letters" sLetters ["thing"] fl dl
  w : DefAt K mg "is_word" sWord ["letters", "thing"] fw dw
  i : DefAt K mg "_law_is_signs" sIsSigns ["_law_it"] fi di
  r : DefAt K mg "_law_is_row" sIsRow ["_law_signs_here", "_law_it"] fr dr
  o : DefAt K mg "_law_odd" sOdd ["_law_deck_here"] fo dO
  b : DefAt K mg "_law_bent" sBent ["_law_deck_here", "_law_it"] fb db
theorem ok_law {f : Addr} {fdl : FuncData} {fk fd fp fs fl fw fi fr fo fb : Addr} {dk dd dp ds dl dw di dr dO db : FuncData} (F : Fun K "law" "law" sLaw f fdl) (X : Txt K mg fk fd fp fs fl fw fi fr fo fb dk dd dp ds dl dw di dr dO db) :
    FnG P w K mg base CX0 4 f fdl ["_law_script"] (spLaw K) := by
  obtain ⟨T, C, Dk, Dd, Dp, Ds, Dl, Dw, Di, Dr, Do, Db⟩ := X
  have Gk : FnOk P w K mg base CX0 1 fk dk ["_law_script"] (spDeck K) := ok_deck Dk.F T
  have Gd : FnOk P w K mg base CX0 1 fd dd ["_law_deck_here", "_law_bound"] spDraw := ok_draw Dd.F T
  have Gp : FnOk P w K mg base CX0 2 fp dp ["_law_deck_here", "_law_some"] (spPick K) := ok_pick Dp.F T Dd
  have Gs : FnOk P w K mg base CX0 2 fs ds ["_law_deck_here", "_law_top"] spSigns := ok_signs Ds.F T Dd
  have Gl : FnOk P w K mg base CX0 2 fl dl ["thing"] (spIsLetters K) := ok_letters Dl.F T C Dw
  have Gw : FnOk P w K mg base CX0 1 fw dw ["letters", "thing"] (spIsWord K) := ok_word Dw.F T
  have Gi : FnOk P w K mg base CX0 1 fi di ["_law_it"] (spIsLetters K) := ok_isSigns Di.F T
  have Gr : FnOk P w K mg base CX0 1 fr dr ["_law_signs_here", "_law_it"] (spIsWord K) := ok_isRow Dr.F T
  have Go : FnOk P w K mg base CX0 3 fo dO ["_law_deck_here"] (spOdd K) := ok_odd Do.F T Dd Dp
  have Gb : FnOk P w K mg base CX0 3 fb db ["_law_deck_here", "_law_it"] spBent := ok_bent Db.F T Dd Dp
  have kl := kb_letters Dl.F
  have kw := kb_word Dw.F
  refine Ami.Fun.okG F scLaw (fun vs H Q E h => ?_) (fun cdv A outer s H vs Q E hg hr h => ?_)
  · obtain ⟨a, ns, rfl, _⟩ := h
    rfl
  · obtain ⟨a, ns, rfl, hS, hlen, k⟩ := h
    have hr1 := hr.mono (j := 1) (by decide)
    have hr2 := hr.mono (j := 2) (by decide)
    have hgu := guards_deeper (envOfC "law" (defScope sLaw) s.heap.objs.size f cdv) hg
    have hun := hr.units
    refine ⟨_, pss_cons (ps_set (i := 1) scLaw.nd rfl (Or.inr rfl) (pc Dk Gk hr1 (pa_cons (pv 0) pa_nil)))
      (pss_cons (ps_for PassesOwn.never rfl (pi_tup (pe_tup (pa_cons pe_str (pa_cons pe_str (pa_cons pe_str (pa_cons pe_str (pa_cons pe_str (pa_cons pe_str pa_nil)))))))) (pg_name (i := 2) scLaw.nd rfl (Or.inr rfl))
        (pss_one (ps_if (PW.pt (pw_or (pt_not (pt_val (pc Dl Gl hr2 (pa_cons (pv 2) pa_nil)))) (pw_or (pt_not (pt_val (pc Dw Gw hr1 (pa_cons (pv 2) (pa_cons (pe_op op_repS (pe_revS (pv 2)) pe_int) pa_nil)))))
          (pw_or1 (pt_val (pc Dw Gw hr1 (pa_cons (pe_slice sl_str (pv 2) (po_some pe_int) po_none) (pa_cons (pv 2) pa_nil)))))))) (pss_one (ps_ret pe_bl)) pss_nil)))
      (pss_cons (ps_for PassesOwn.never rfl (pi_range1 (by rfl) T.range (pa_cons pe_int pa_nil)) (pg_name (i := 3) scLaw.nd rfl (Or.inl rfl))
        (pss_cons (ps_set (i := 2) scLaw.nd rfl (Or.inr rfl) (pc Ds Gs hr2 (pa_cons (pv 1) (pa_cons pe_int pa_nil))))
        (pss_cons (ps_set (i := 4) scLaw.nd rfl (Or.inl rfl) (pe_join pe_str (pe_lc (own := [("_law_k", 8)]) (g := gName 8) (tt := tYes) rfl scLaw.nd (pi_range1 (by rfl) T.range (pa_cons (pc Dd Gd hr1 (pa_cons (pv 1) (pa_cons pe_int pa_nil))) pa_nil))
          (blkOk_by (own := [("_law_k", 8)]) (N := ["_law_script", "_law_deck_here", "_law_signs_here", "_law_turn", "_law_row", "_law_some", "_law_it", "_law_was", "_law_k"]) (sc := defScope sLaw) (by decide +kernel))
          (fun _ _ _ _ _ => pg_name (i := 8) scLaw.nd rfl (Or.inl rfl)) (fun _ _ _ _ _ => pts_nil) (fun _ _ _ _ _ => pc Dp Gp hr2 (pa_cons (pv 1) (pa_cons (pv 2) pa_nil))))))
        (pss_cons (ps_set (i := 5) scLaw.nd rfl (Or.inl rfl) (pe_lst (pa_cons (pv 2) (pa_cons (pe_slice sl_str (pv 2) po_none (po_some pe_int)) (pa_cons (pe_op op_add_str (pv 2) (pe_slice sl_str (pv 2) (po_some (pe_un un_neg pe_int)) po_none))
          (pa_cons (pe_revS (pv 2)) (pa_cons (pv 4) (pa_cons (pc Db Gb hr (pa_cons (pv 1) (pa_cons (pv 2) pa_nil))) (pa_cons (pc Db Gb hr (pa_cons (pv 1) (pa_cons (pv 4) pa_nil))) pa_nil)))))))))
        (pss_cons (ps_set (i := 5) scLaw.nd rfl (Or.inl rfl) (pe_op op_cat (pv 5) (pe_lst (pa_cons (pc Db Gb hr (pa_cons (pv 1) (pa_cons (pc Db Gb hr (pa_cons (pv 1) (pa_cons (pv 4) pa_nil))) pa_nil)))
          (pa_cons (pc Do Go hr (pa_cons (pv 1) pa_nil)) (pa_cons (pc Do Go hr (pa_cons (pv 1) pa_nil)) (pa_cons (pe_callTy (cr_listStr rfl) (by rfl) T.list (by decide +kernel) (pa_cons (pv 2) pa_nil)) (pa_cons (pe_tup (pa_cons (pv 4) pa_nil)) pa_nil))))))))
        (pss_one (ps_for PassesOwn.never rfl (pi_list (pv 5)) (pg_name (i := 6) scLaw.nd rfl (Or.inl rfl))
          (pss_cons (ps_set (i := 7) scLaw.nd rfl (Or.inl rfl) (pe_callB (cr_repr hgu hun) (by rfl) T.repr (by decide +kernel) (pa_cons (pv 6) pa_nil)))
          (pss_cons (ps_if (pt_cmpR op_ne (pe_callB (cr_repr hgu hun) (by rfl) T.repr (by decide +kernel) (pa_cons (pe_lst (pa_cons (pc Dl Gl hr2 (pa_cons (pv 6) pa_nil)) (pa_cons (pe_callK0 Gl hr2 (by rfl) Dl.g Dl.F.kp kl pass0 (pk_cons (pv 6) pk_nil)) pa_nil))) pa_nil))
              (pe_callB (cr_repr hgu hun) (by rfl) T.repr (by decide +kernel) (pa_cons (pe_op op_rep (pe_lst (pa_cons (pc Di Gi hr1 (pa_cons (pv 6) pa_nil)) pa_nil)) pe_int) pa_nil)) (nomark _)) (pss_one (ps_ret pe_bl)) pss_nil)
          (pss_cons (ps_if (pt_cmpR op_ne (pe_callB (cr_repr hgu hun) (by rfl) T.repr (by decide +kernel) (pa_cons (pe_lst (pa_cons (pc Dw Gw hr1 (pa_cons (pv 2) (pa_cons (pv 6) pa_nil))) (pa_cons (pe_callK0 Gw hr1 (by rfl) Dw.g Dw.F.kp kw pass0 (pk_cons (pv 6) (pk_cons (pv 2) pk_nil))) pa_nil))) pa_nil))
              (pe_callB (cr_repr hgu hun) (by rfl) T.repr (by decide +kernel) (pa_cons (pe_op op_rep (pe_lst (pa_cons (pc Dr Gr hr1 (pa_cons (pv 2) (pa_cons (pv 6) pa_nil))) pa_nil)) pe_int) pa_nil)) (nomark _)) (pss_one (ps_ret pe_bl)) pss_nil)
          (pss_one (ps_if (pt_cmpR op_ne (pe_callB (cr_repr hgu hun) (by rfl) T.repr (by decide +kernel) (pa_cons (pv 6) pa_nil)) (pv 7) (nomark _)) (pss_one (ps_ret pe_bl)) pss_nil))))))))))))
      (pss_one (ps_ret pe_bl)))), ?_⟩
    refine ⟨_, rfl, a, ns, rfl, hS, hlen, fun H1 d c hd hc D s1 => ?_⟩
    refine ⟨(by show 6 ≤ sizeLine; decide), fun t ht => ⟨t, rfl, ⟨_, SqT.of upd_same⟩, ?_⟩⟩
    have hT : (upd H1 t (.tup (six.map V.str))) t = some (.tup (six.map V.str)) := upd_same
    have DT : DeckAt (upd H1 t (.tup (six.map V.str))) d c 0 := D.new ht
    refine for_tup (K := K) (a := t) (xs := six.map V.str) (fun i σ H' => ∃ v : Option V, σ = [some (.ref a), some (.ref d), v, none, none, none, none, none, none] ∧ Same (upd H1 t (.tup (six.map V.str))) H')
      ⟨none, rfl, Same.refl _⟩ (fun i σ H' _ ⟨_, _, s⟩ => Same.seqT s (SqT.of hT)) ?_ ?_
    · rintro i y σ H' hi ⟨v, rfl, s2⟩
      obtain ⟨z, hz, rfl⟩ : ∃ z ∈ six, y = V.str z := by
        obtain ⟨z, hz, e⟩ := List.mem_map.mp (List.mem_of_getElem? hi)
        exact ⟨z, hz, e.symm⟩
      have q := List.all_eq_true.mp six_ok z hz
      simp only [Bool.and_eq_true, decide_eq_true_eq, Bool.not_eq_true'] at q
      obtain ⟨⟨⟨⟨q1, q2⟩, q3⟩, q4⟩, q5⟩ := q
      have zA : Asc z := ascLit q2
      have e1 : letO (some z) = true := q3
      have e2 : wordO z (some (repS (revS z) 80)) = true := q4
      have e3 : wordO (cutS z (some 1) none) (some z) = false := q5
      have hzl : z.length ≤ sizeLine := Nat.le_of_lt (small5 (by omega))
      refine ⟨_, rfl, .str z, some z, rfl, ⟨rfl, by omega, zA⟩, fun H3 s3 => ⟨_, rfl, ?_⟩⟩
      rw [e1]
      refine iteF ?_
      refine ⟨_, rfl, _, rfl, z, rfl, hzl, revS z, 80, rfl, rfl, by rw [revS_length]; exact Nat.le_of_lt (small5 (by omega)), by decide, z, _, some (repS (revS z) 80), rfl, ⟨rfl, by rw [repS_length, revS_length]; omega, zA.rev.rep 80⟩, fun H4 s4 => ⟨_, rfl, ?_⟩⟩
      rw [e2]
      refine iteF ?_
      refine ⟨_, rfl, _, rfl, z, rfl, hzl, _, rfl, cutS z (some 1) none, _, some z, rfl, ⟨rfl, by omega, zA⟩, fun H5 s5 => ⟨_, rfl, ?_⟩⟩
      rw [e3]
      refine iteF ?_
      exact ⟨_, rfl, ((s2.trans s3).trans s4).trans s5⟩
    rintro σ H2 ⟨v, rfl, s2⟩
    have D2 : DeckAt H2 d c 0 := DT.same s2
    refine ⟨_, rfl, by decide, by decide, ?_⟩
    refine for_range (lo := 0) (n := 6) (fun i σ H' => ∃ (n : Nat) (v2 v3 v4 v5 v6 v7 v8 : Option V), σ = [some (.ref a), some (.ref d), v2, v3, v4, v5, v6, v7, v8] ∧ n ≤ 60 * i ∧ DeckAt H' d c n) ⟨0, _, _, _, _, _, _, _, rfl, Nat.le_refl _, D2⟩ ?_ ?_
    · rintro i σ H' hi ⟨n, v2, v3, v4, v5, v6, v7, v8, rfl, hn, D3⟩
      refine ⟨_, rfl, d, c, n, 5, rfl, by decide, by decide, by omega, D3, fun H4 z n4 hz hn4 D4 B4 => ?_⟩
      obtain ⟨zl2, zl5⟩ := hz.len
      have zA := hz.asc
      have hzl : z.length ≤ sizeLine := Nat.le_of_lt (small5 (by omega))
      refine ⟨⟨_, rfl⟩, _, rfl, d, c, n4, 9, rfl, by decide, by decide, by omega, D4, fun H5 r h0 h1 D5 B5 => ⟨_, rfl, by omega, by omega, fun L hL => ?_⟩⟩
      obtain ⟨j, rfl⟩ : ∃ j : Nat, r = j := ⟨r.toNat, by omega⟩
      have ej : ((j : Int)).toNat = j := by omega
      rw [ej]
      have hj : j ≤ 8 := by omega
      obtain ⟨nLd, nLc⟩ := D5.ned hL
      refine lc_range (lo := 0) (n := j) (fun i H' => ∃ cs : List Nat, H' L = some (.lst ((cs.map one).map V.str)) ∧ cs.length = i ∧ (∀ e ∈ cs, e < 128) ∧ DeckAt H' d c (n4 + 1 + i)) ⟨[], upd_same, rfl, (fun e he => nomatch he), D5.new hL⟩ ?_ ?_
      · rintro m H6 hm ⟨cs, e1, e2, e3, D6⟩
        refine ⟨rfl, ?_⟩
        dsimp only [tYes]
        refine iteT ?_
        refine ⟨_, rfl, _, rfl, d, c, _, .str z, (letts z).map V.str, rfl, ?_, ?_, by omega, D6, fun H' B => .txt z hzl, fun H7 y hy D7 B7 => ?_⟩
        · intro e
          have := congrArg List.length e
          rw [List.length_map, letts_length] at this
          exact absurd this (by show z.length ≠ 0; omega)
        · rw [List.length_map, letts_length]; omega
        · obtain ⟨w1, hw, rfl⟩ := List.mem_map.mp hy
          obtain ⟨e, he, rfl⟩ := List.mem_map.mp hw
          refine ⟨_, B7 L _ nLd nLc e1, ?_, cs ++ [e], ?_, ?_, ?_, ?_⟩
          · rw [List.length_map, List.length_map, e2]; exact small5 (by omega)
          · rw [upd_same, List.map_append, List.map_append]; rfl
          · rw [List.length_append, e2]; rfl
          · intro x hx
            rcases List.mem_append.mp hx with h | h
            · exact e3 x h
            · rw [List.mem_singleton.mp h]; exact zA e he
          · exact D7.set nLd nLc
      rintro H6 ⟨cs, e1, e2, e3, D6⟩
      refine ⟨_, L, cs.map one, rfl, rfl, .inl (SqL.of e1), ?_, ?_⟩
      · have e : (cs.map one).map (fun x : Str => x.length) = List.replicate cs.length 1 := by
          rw [List.map_map]
          exact List.eq_replicate_iff.mpr ⟨by rw [List.length_map], fun b hb => by obtain ⟨c, _, rfl⟩ := List.mem_map.mp hb; rfl⟩
        rw [e, List.sum_replicate_nat, List.length_map]
        have e0 : (Str.ofString "").length = 0 := by decide +kernel
        rw [e0]; omega
      have e0 : Str.ofString "" = ⟨#[]⟩ := by decide +kernel
      rw [e0, joinOnes]
      obtain ⟨row, hrow, rl, rA⟩ : ∃ row : Str, row = ⟨cs.toArray⟩ ∧ row.length ≤ 8 ∧ Asc row := ⟨_, rfl, by show cs.toArray.size ≤ 8; rw [List.size_toArray]; omega, fun x hx => e3 x hx⟩
      rw [← hrow]
      clear hrow e1 e3
      refine ⟨_, rfl, _, rfl, _, rfl, z, rfl, hzl, _, rfl, _, rfl, _, rfl, _, rfl, z, rfl, hzl, _, _, rfl, rfl, ?_, _, rfl, z, rfl, hzl, _, rfl, _, rfl, _, rfl, d, c, _, z, rfl, by omega, D6, by omega, zA, fun H7 n7 b1 l1 A1 hn7 D7 B7 => ?_⟩
      · have := cutS_length z (some (-1)) none; exact Nat.le_of_lt (small5 (by omega))
      refine ⟨_, rfl, _, rfl, d, c, _, row, rfl, by omega, D7, by omega, rA, fun H8 n8 b2 l2 A2 hn8 D8 B8 => ⟨(by show 7 ≤ sizeLine; decide), fun p1 hp1 => ?_⟩⟩
      refine ⟨_, rfl, _, rfl, _, rfl, _, rfl, d, c, _, row, rfl, by omega, D8.new hp1, by omega, rA, fun H9 n9 b3 l3 A3 hn9 D9 B9 => ⟨d, c, _, b3, rfl, by omega, D9, by omega, A3, fun H10 n10 b4 l4 A4 hn10 D10 B10 => ?_⟩⟩
      refine ⟨_, rfl, d, c, n10, rfl, by omega, D10, fun H11 o1 T1 D11 B11 => ⟨_, rfl, d, c, _, rfl, by omega, D11, fun H12 o2 T2 D12 B12 => ⟨_, rfl, z, rfl, hzl, fun p2 hp2 => ⟨_, rfl, (by show 1 ≤ sizeLine; decide), fun p3 hp3 => ⟨(by show 5 ≤ sizeLine; decide), fun p4 hp4 => ?_⟩⟩⟩⟩⟩
      have g1 := B12 _ _ (D8.ned hp1).1 (D8.ned hp1).2 (B11 _ _ (D8.ned hp1).1 (D8.ned hp1).2 (B10 _ _ (D8.ned hp1).1 (D8.ned hp1).2 (B9 _ _ (D8.ned hp1).1 (D8.ned hp1).2 upd_same)))
      refine ⟨p1, p4, _, _, rfl, rfl, Same.upd hp4 _ _ (Same.upd hp3 _ _ (Same.upd hp2 _ _ g1)), upd_same, (by show 12 ≤ sizeLine; decide), fun p5 hp5 => ?_⟩
      rw [show (([V.str z, V.str (cutS z none (some 1)), V.str (z ++ cutS z (some (-1)) none), V.str (revS z), V.str row, V.str b1, V.str b2] ++ [V.str b4, o1, o2, V.ref p2, V.ref p3] : List V)) = tvs z row b1 b2 b4 o1 o2 p2 p3 from rfl]
      have S2 : Same H12 (upd H12 p2 (.lst ((letts z).map V.str))) := Same.upd hp2
      have S5 : Same H12 (upd (upd (upd (upd H12 p2 (.lst ((letts z).map V.str))) p3 (.tup [.str row])) p4 (.lst [V.str b4, o1, o2, V.ref p2, V.ref p3])) p5 (.lst (tvs z row b1 b2 b4 o1 o2 p2 p3))) :=
        S2.trans ((Same.upd hp3).trans ((Same.upd hp4).trans (Same.upd hp5)))
      have g2 : (upd (upd (upd (upd H12 p2 (.lst ((letts z).map V.str))) p3 (.tup [.str row])) p4 (.lst [V.str b4, o1, o2, V.ref p2, V.ref p3])) p5 (.lst (tvs z row b1 b2 b4 o1 o2 p2 p3))) p2 = some (.lst ((letts z).map V.str)) :=
        Same.upd hp5 _ _ (Same.upd hp4 _ _ (Same.upd hp3 _ _ upd_same))
      have g3 : (upd (upd (upd (upd H12 p2 (.lst ((letts z).map V.str))) p3 (.tup [.str row])) p4 (.lst [V.str b4, o1, o2, V.ref p2, V.ref p3])) p5 (.lst (tvs z row b1 b2 b4 o1 o2 p2 p3))) p3 = some (.tup [.str row]) :=
        Same.upd hp5 _ _ (Same.upd hp4 _ _ upd_same)
      have g5 : (upd (upd (upd (upd H12 p2 (.lst ((letts z).map V.str))) p3 (.tup [.str row])) p4 (.lst [V.str b4, o1, o2, V.ref p2, V.ref p3])) p5 (.lst (tvs z row b1 b2 b4 o1 o2 p2 p3))) p5 = some (.lst (tvs z row b1 b2 b4 o1 o2 p2 p3)) := upd_same
      have D13 : DeckAt (upd (upd (upd (upd H12 p2 (.lst ((letts z).map V.str))) p3 (.tup [.str row])) p4 (.lst [V.str b4, o1, o2, V.ref p2, V.ref p3])) p5 (.lst (tvs z row b1 b2 b4 o1 o2 p2 p3))) d c _ := (((D12.new hp2).new hp3).new hp4).new hp5
      have O1 := (T1.go (B12.trans (But.same S5))).now
      have O2 := (T2.go (But.same S5)).now
      refine ⟨_, rfl, p5, rfl, ⟨_, SqL.of g5⟩, ?_⟩
      revert g2 g3 g5 D13 O1 O2
      clear S5
      generalize upd (upd (upd (upd H12 p2 (.lst ((letts z).map V.str))) p3 (.tup [.str row])) p4 (.lst [V.str b4, o1, o2, V.ref p2, V.ref p3])) p5 (.lst (tvs z row b1 b2 b4 o1 o2 p2 p3)) = Hx
      intro g2 g3 g5 D13 O1 O2
      have things := tvs_things (K := K) (by omega) zA rl rA (by omega) A1 (by omega) A2 (by omega) A4 O1 O2 g2 g3
      clear T1 T2 B9 B10 B11 B12 O1 O2 g1 g2 g3
      refine for_list (K := K) (a := p5) (xs := tvs z row b1 b2 b4 o1 o2 p2 p3) (fun i' σ H' => ∃ u6 u7 : Option V, σ = [some (.ref a), some (.ref d), some (.str z), some (.int (0 + i)), some (.str row), some (.ref p5), u6, u7, v8] ∧ Same Hx H')
        ⟨_, _, rfl, Same.refl _⟩ (fun _ _ _ _ ⟨_, _, _, S⟩ => S.seq (SqL.of g5)) ?_ ?_
      · rintro i' y σ H' hi' ⟨u6, u7, rfl, S⟩
        obtain ⟨o, dt, hI, hq, hf, hsh, hsl, hdd⟩ := things y (List.mem_of_getElem? hi')
        refine ⟨_, rfl, y, dt, rfl, Dq.up S hq, hf, hsh, hsl, hdd, ?_⟩
        refine ⟨_, rfl, y, o, rfl, hI.same S, fun J1 t1 => ⟨_, rfl, y, o, rfl, hI.same (S.trans t1), fun J2 t2 => ⟨(by show 2 ≤ sizeLine; decide), fun q1 hq1 => ?_⟩⟩⟩
        refine ⟨.ref q1, D2b (letO o), rfl, d2_at upd_same, rfl, rfl, d2_len _, d2_dep _, ?_⟩
        have S3 := ((S.trans t1).trans t2).trans (Same.upd (o := .lst [.bl (letO o), .bl (letO o)]) hq1)
        refine ⟨_, rfl, y, o, rfl, hI.same S3, fun J3 t3 => ⟨(by show 1 ≤ sizeLine; decide), fun q2 hq2 => ⟨q2, 2, _, rfl, rfl, upd_same, by decide, by decide, (by show 2 ≤ sizeLine; decide), fun q3 hq3 => ?_⟩⟩⟩
        have S4 := ((S3.trans t3).trans (Same.upd (o := .lst [.bl (letO o)]) hq2)).trans (Same.upd (o := .lst [.bl (letO o), .bl (letO o)]) hq3)
        refine ⟨.ref q3, D2b (letO o), rfl, d2_at upd_same, rfl, rfl, d2_len _, d2_dep _, rfl, _, rfl, ?_⟩
        have e1 : decide (V.str (D2b (letO o)).shown = V.str (D2b (letO o)).shown) = true := decide_eq_true rfl
        rw [e1]
        refine iteF ?_
        refine ⟨_, rfl, _, rfl, z, y, o, rfl, hI.same S4, fun J4 t4 => ⟨_, rfl, _, rfl, z, y, o, rfl, hI.same (S4.trans t4), fun J5 t5 => ⟨(by show 2 ≤ sizeLine; decide), fun q4 hq4 => ?_⟩⟩⟩
        refine ⟨.ref q4, D2b (wordO z o), rfl, d2_at upd_same, rfl, rfl, d2_len _, d2_dep _, ?_⟩
        have S5 := ((S4.trans t4).trans t5).trans (Same.upd (o := .lst [.bl (wordO z o), .bl (wordO z o)]) hq4)
        refine ⟨_, rfl, _, rfl, z, y, o, rfl, hI.same S5, fun J6 t6 => ⟨(by show 1 ≤ sizeLine; decide), fun q5 hq5 => ⟨q5, 2, _, rfl, rfl, upd_same, by decide, by decide, (by show 2 ≤ sizeLine; decide), fun q6 hq6 => ?_⟩⟩⟩
        have S6 := ((S5.trans t6).trans (Same.upd (o := .lst [.bl (wordO z o)]) hq5)).trans (Same.upd (o := .lst [.bl (wordO z o), .bl (wordO z o)]) hq6)
        refine ⟨.ref q6, D2b (wordO z o), rfl, d2_at upd_same, rfl, rfl, d2_len _, d2_dep _, rfl, _, rfl, ?_⟩
        have e2 : decide (V.str (D2b (wordO z o)).shown = V.str (D2b (wordO z o)).shown) = true := decide_eq_true rfl
        rw [e2]
        refine iteF ?_
        refine ⟨_, rfl, y, dt, rfl, Dq.up S6 hq, hf, hsh, hsl, hdd, _, rfl, rfl, _, rfl, ?_⟩
        have e3 : decide (V.str dt.shown = V.str dt.shown) = true := decide_eq_true rfl
        rw [e3]
        refine iteF ?_
        exact ⟨_, _, rfl, S6⟩
      · rintro σ H' ⟨u6, u7, rfl, S⟩
        exact ⟨_, _, _, _, _, _, _, _, rfl, by omega, D13.same S⟩
    · rintro σ H' ⟨n, v2, v3, v4, v5, v6, v7, v8, rfl, _, _⟩
      exact k _
end
end K01

set_option Elab.async false
set_option linter.all false
set_option maxRecDepth 100000
namespace K01
open PySem PySem.Spec PyProof.Rows L2 Ami
theorem all_mk {l : PySem.W.OpenLaw} {w : World} {K : PySem.W.Frag} {h : Heap} {mg : Str → Option Value} {fa f1 f2 f3 f4 f5 f6 f7 f8 f9 f10 f11 : Addr} (X : K.In h) (G : h.Ns mainGlobals mg) (hfa : mg "law" = some (.ref fa))
    {od1 an1 od2 an2 od3 an3 od4 an4 od5 an5 od6 an6 od7 an7 od8 an8 od9 an9 od10 an10 od11 an11 : Option Addr} {sl1 sl2 sl3 sl4 sl5 sl6 sl7 sl8 sl9 sl10 sl11 : Array (Option Value)} {oc1 kV1 dc1 pm1 cd1 ct1 oc2 kV2 dc2 pm2 cd2 ct2 oc3 kV3 dc3 pm3 cd3 ct3 oc4 kV4 dc4 pm4 cd4 ct4 oc5 kV5 dc5 pm5 cd5 ct5 oc6 kV6 dc6 pm6 cd6 ct6 oc7 kV7 dc7 pm7 cd7 ct7 oc8 kV8 dc8 pm8 cd8 ct8 oc9 kV9 dc9 pm9 cd9 ct9 oc10 kV10 dc10 pm10 cd10 ct10 oc11 kV11 dc11 pm11 cd11 ct11 : Value} {t1 t2 t3 : Tok}
    (a1 : PySem.W.nsIn K mainGlobals "_law_deck" = some (some (.ref f1))) (l1 : K.lookup f1 = some ⟨oc1, od1, .func (PySem.W.fnOf "_law_deck" "_law_deck" (defArgs sDeck) (defBody sDeck) (defScope sDeck) .none kV1 dc1 pm1 an1 cd1 ct1), sl1⟩) (c1 : PySem.W.codeIn K cd1 "_law_deck" = true) (k1 : PySem.W.keepIn K (.ref f1) = true)
    (a2 : PySem.W.nsIn K mainGlobals "_law_draw" = some (some (.ref f2))) (l2 : K.lookup f2 = some ⟨oc2, od2, .func (PySem.W.fnOf "_law_draw" "_law_draw" (defArgs sDraw) (defBody sDraw) (defScope sDraw) .none kV2 dc2 pm2 an2 cd2 ct2), sl2⟩) (c2 : PySem.W.codeIn K cd2 "_law_draw" = true) (k2 : PySem.W.keepIn K (.ref f2) = true)
    (a3 : PySem.W.nsIn K mainGlobals "_law_pick" = some (some (.ref f3))) (l3 : K.lookup f3 = some ⟨oc3, od3, .func (PySem.W.fnOf "_law_pick" "_law_pick" (defArgs sPick) (defBody sPick) (defScope sPick) .none kV3 dc3 pm3 an3 cd3 ct3), sl3⟩) (c3 : PySem.W.codeIn K cd3 "_law_pick" = true) (k3 : PySem.W.keepIn K (.ref f3) = true)
    (a4 : PySem.W.nsIn K mainGlobals "_law_signs" = some (some (.ref f4))) (l4 : K.lookup f4 = some ⟨oc4, od4, .func (PySem.W.fnOf "_law_signs" "_law_signs" (defArgs sSigns) (defBody sSigns) (defScope sSigns) .none kV4 dc4 pm4 an4 cd4 ct4), sl4⟩) (c4 : PySem.W.codeIn K cd4 "_law_signs" = true) (k4 : PySem.W.keepIn K (.ref f4) = true)
    (a5 : PySem.W.nsIn K mainGlobals "is_letters" = some (some (.ref f5))) (l5 : K.lookup f5 = some ⟨oc5, od5, .func (PySem.W.fnOf "is_letters" "is_letters" (defArgs sLetters) (defBody sLetters) (defScope sLetters) .none kV5 dc5 pm5 an5 cd5 ct5), sl5⟩) (c5 : PySem.W.codeIn K cd5 "is_letters" = true) (k5 : PySem.W.keepIn K (.ref f5) = true)
    (a6 : PySem.W.nsIn K mainGlobals "is_word" = some (some (.ref f6))) (l6 : K.lookup f6 = some ⟨oc6, od6, .func (PySem.W.fnOf "is_word" "is_word" (defArgs sWord) (defBody sWord) (defScope sWord) .none kV6 dc6 pm6 an6 cd6 ct6), sl6⟩) (c6 : PySem.W.codeIn K cd6 "is_word" = true) (k6 : PySem.W.keepIn K (.ref f6) = true)
    (a7 : PySem.W.nsIn K mainGlobals "_law_is_signs" = some (some (.ref f7))) (l7 : K.lookup f7 = some ⟨oc7, od7, .func (PySem.W.fnOf "_law_is_signs" "_law_is_signs" (defArgs sIsSigns) (defBody sIsSigns) (defScope sIsSigns) .none kV7 dc7 pm7 an7 cd7 ct7), sl7⟩) (c7 : PySem.W.codeIn K cd7 "_law_is_signs" = true) (k7 : PySem.W.keepIn K (.ref f7) = true)
    (a8 : PySem.W.nsIn K mainGlobals "_law_is_row" = some (some (.ref f8))) (l8 : K.lookup f8 = some ⟨oc8, od8, .func (PySem.W.fnOf "_law_is_row" "_law_is_row" (defArgs sIsRow) (defBody sIsRow) (defScope sIsRow) .none kV8 dc8 pm8 an8 cd8 ct8), sl8⟩) (c8 : PySem.W.codeIn K cd8 "_law_is_row" = true) (k8 : PySem.W.keepIn K (.ref f8) = true)
    (a9 : PySem.W.nsIn K mainGlobals "_law_odd" = some (some (.ref f9))) (l9 : K.lookup f9 = some ⟨oc9, od9, .func (PySem.W.fnOf "_law_odd" "_law_odd" (defArgs sOdd) (defBody sOdd) (defScope sOdd) .none kV9 dc9 pm9 an9 cd9 ct9), sl9⟩) (c9 : PySem.W.codeIn K cd9 "_law_odd" = true) (k9 : PySem.W.keepIn K (.ref f9) = true)
    (a10 : PySem.W.nsIn K mainGlobals "_law_bent" = some (some (.ref f10))) (l10 : K.lookup f10 = some ⟨oc10, od10, .func (PySem.W.fnOf "_law_bent" "_law_bent" (defArgs sBent) (defBody sBent) (defScope sBent) .none kV10 dc10 pm10 an10 cd10 ct10), sl10⟩) (c10 : PySem.W.codeIn K cd10 "_law_bent" = true) (k10 : PySem.W.keepIn K (.ref f10) = true)
    (a11 : PySem.W.nsIn K mainGlobals "law" = some (some (.ref f11))) (l11 : K.lookup f11 = some ⟨oc11, od11, .func (PySem.W.fnOf "law" "law" (defArgs sLaw) (defBody sLaw) (defScope sLaw) .none kV11 dc11 pm11 an11 cd11 ct11), sl11⟩) (c11 : PySem.W.codeIn K cd11 "law" = true) (k11 : PySem.W.keepIn K (.ref f11) = true)
    (z1 : PySem.W.nsIn K mainGlobals "FEWEST_LETTERS" = some (some (.int 2 t1)))
    (z2 : PySem.W.nsIn K mainGlobals "MOST_LETTERS" = some (some (.int 5 t2)))
    (z3 : PySem.W.nsIn K mainGlobals "ALPHABET" = some (some (.str alpha t3)))
    (b1 : PySem.W.nsIn K mainGlobals "len" = some none)
    (b2 : PySem.W.nsIn K mainGlobals "int" = some none)
    (b3 : PySem.W.nsIn K mainGlobals "list" = some none)
    (b4 : PySem.W.nsIn K mainGlobals "range" = some none)
    (b5 : PySem.W.nsIn K mainGlobals "sorted" = some none)
    (b6 : PySem.W.nsIn K mainGlobals "set" = some none)
    (b7 : PySem.W.nsIn K mainGlobals "all" = some none)
    (b8 : PySem.W.nsIn K mainGlobals "isinstance" = some none)
    (b9 : PySem.W.nsIn K mainGlobals "str" = some none)
    (b10 : PySem.W.nsIn K mainGlobals "repr" = some none)
    : ∃ fd : FuncData, (∀ (s : Shared) (v : Value), BindsTo s fd ⟨[v], []⟩ [("_law_script", v)]) ∧ ∀ base : Heap, K.In base → base.Ns mainGlobals mg → FnG l.prog w K mg base CX0 4 fa fd ["_law_script"] (spLaw K) := by
  have e := hfa.symm.trans (PySem.W.mg_of X G a11)
  cases e
  have T : Blt mg := ⟨PySem.W.mg_none_of X G b1, PySem.W.mg_none_of X G b2, PySem.W.mg_none_of X G b3, PySem.W.mg_none_of X G b4, PySem.W.mg_none_of X G b5, PySem.W.mg_none_of X G b6, PySem.W.mg_none_of X G b7, PySem.W.mg_none_of X G b8, PySem.W.mg_none_of X G b9, PySem.W.mg_none_of X G b10⟩
  have C : Cst mg := ⟨⟨_, PySem.W.mg_of X G z1⟩, ⟨_, PySem.W.mg_of X G z2⟩, ⟨_, PySem.W.mg_of X G z3⟩⟩
  have D1 : DefAt K mg "_law_deck" sDeck ["_law_script"] f1 _ := ⟨fun_mk (st := sDeck) l1 c1 k1, (fun_mk (st := sDeck) l1 c1 k1).binds (ps := ["_law_script"]) fun _ _ _ _ _ _ us hl => match us, hl with | [_], _ => rfl, PySem.W.mg_of X G a1⟩
  have D2 : DefAt K mg "_law_draw" sDraw ["_law_deck_here", "_law_bound"] f2 _ := ⟨fun_mk (st := sDraw) l2 c2 k2, (fun_mk (st := sDraw) l2 c2 k2).binds (ps := ["_law_deck_here", "_law_bound"]) fun _ _ _ _ _ _ us hl => match us, hl with | [_, _], _ => rfl, PySem.W.mg_of X G a2⟩
  have D3 : DefAt K mg "_law_pick" sPick ["_law_deck_here", "_law_some"] f3 _ := ⟨fun_mk (st := sPick) l3 c3 k3, (fun_mk (st := sPick) l3 c3 k3).binds (ps := ["_law_deck_here", "_law_some"]) fun _ _ _ _ _ _ us hl => match us, hl with | [_, _], _ => rfl, PySem.W.mg_of X G a3⟩
  have D4 : DefAt K mg "_law_signs" sSigns ["_law_deck_here", "_law_top"] f4 _ := ⟨fun_mk (st := sSigns) l4 c4 k4, (fun_mk (st := sSigns) l4 c4 k4).binds (ps := ["_law_deck_here", "_law_top"]) fun _ _ _ _ _ _ us hl => match us, hl with | [_, _], _ => rfl, PySem.W.mg_of X G a4⟩
  have D5 : DefAt K mg "is_letters" sLetters ["thing"] f5 _ := ⟨fun_mk (st := sLetters) l5 c5 k5, (fun_mk (st := sLetters) l5 c5 k5).binds (ps := ["thing"]) fun _ _ _ _ _ _ us hl => match us, hl with | [_], _ => rfl, PySem.W.mg_of X G a5⟩
  have D6 : DefAt K mg "is_word" sWord ["letters", "thing"] f6 _ := ⟨fun_mk (st := sWord) l6 c6 k6, (fun_mk (st := sWord) l6 c6 k6).binds (ps := ["letters", "thing"]) fun _ _ _ _ _ _ us hl => match us, hl with | [_, _], _ => rfl, PySem.W.mg_of X G a6⟩
  have D7 : DefAt K mg "_law_is_signs" sIsSigns ["_law_it"] f7 _ := ⟨fun_mk (st := sIsSigns) l7 c7 k7, (fun_mk (st := sIsSigns) l7 c7 k7).binds (ps := ["_law_it"]) fun _ _ _ _ _ _ us hl => match us, hl with | [_], _ => rfl, PySem.W.mg_of X G a7⟩
  have D8 : DefAt K mg "_law_is_row" sIsRow ["_law_signs_here", "_law_it"] f8 _ := ⟨fun_mk (st := sIsRow) l8 c8 k8, (fun_mk (st := sIsRow) l8 c8 k8).binds (ps := ["_law_signs_here", "_law_it"]) fun _ _ _ _ _ _ us hl => match us, hl with | [_, _], _ => rfl, PySem.W.mg_of X G a8⟩
  have D9 : DefAt K mg "_law_odd" sOdd ["_law_deck_here"] f9 _ := ⟨fun_mk (st := sOdd) l9 c9 k9, (fun_mk (st := sOdd) l9 c9 k9).binds (ps := ["_law_deck_here"]) fun _ _ _ _ _ _ us hl => match us, hl with | [_], _ => rfl, PySem.W.mg_of X G a9⟩
  have D10 : DefAt K mg "_law_bent" sBent ["_law_deck_here", "_law_it"] f10 _ := ⟨fun_mk (st := sBent) l10 c10 k10, (fun_mk (st := sBent) l10 c10 k10).binds (ps := ["_law_deck_here", "_law_it"]) fun _ _ _ _ _ _ us hl => match us, hl with | [_, _], _ => rfl, PySem.W.mg_of X G a10⟩
  exact ⟨_, fun s v => .of_eq rfl, fun base _ _ => ok_law (fun_mk (st := sLaw) l11 c11 k11) ⟨T, C, D1, D2, D3, D4, D5, D6, D7, D8, D9, D10⟩⟩
end K01

open PySem PySem.W PyProof.Rows in
set_option maxRecDepth 100000 in
set_option maxHeartbeats 0 in
theorem PySem.Challenge.cw_amidread_k01_letters_and_words_of_any_va_holds : PySem.Challenge.rw_amidread_k01_letters_and_words_of_any_va.Holds := by
  w_on; o_law; k_head; (case hw => w_witness2)
  k_fill
  refine Ami.walk_ofG (l := PySem.Challenge.rw_amidread_k01_letters_and_words_of_any_va) (n := 63) (k := 4) (x := "_law_script") (sp := fun w => Ami.spLaw _) rfl (by decide) rfl ⟨rfl, by decide, by decide⟩ (fun w h Y => PySem.W.kIn_of Y) ?F (fun _ _ a ns hl _ hS => ⟨a, ns, rfl, hS, hl, fun _ => rfl⟩)
  case F =>
    intro w mg fa h KX G hmg
    refine' K01.all_mk KX G hmg ?a1 ?l1 ?c1 ?k1 ?a2 ?l2 ?c2 ?k2 ?a3 ?l3 ?c3 ?k3 ?a4 ?l4 ?c4 ?k4 ?a5 ?l5 ?c5 ?k5 ?a6 ?l6 ?c6 ?k6 ?a7 ?l7 ?c7 ?k7 ?a8 ?l8 ?c8 ?k8 ?a9 ?l9 ?c9 ?k9 ?a10 ?l10 ?c10 ?k10 ?a11 ?l11 ?c11 ?k11 ?z1 ?z2 ?z3 ?b1 ?b2 ?b3 ?b4 ?b5 ?b6 ?b7 ?b8 ?b9 ?b10
    (case a1 => k_is)
    (case l1 => k_is)
    (case c1 => k_is)
    (case k1 => k_is)
    (case a2 => k_is)
    (case l2 => k_is)
    (case c2 => k_is)
    (case k2 => k_is)
    (case a3 => k_is)
    (case l3 => k_is)
    (case c3 => k_is)
    (case k3 => k_is)
    (case a4 => k_is)
    (case l4 => k_is)
    (case c4 => k_is)
    (case k4 => k_is)
    (case a5 => k_is)
    (case l5 => k_is)
    (case c5 => k_is)
    (case k5 => k_is)
    (case a6 => k_is)
    (case l6 => k_is)
    (case c6 => k_is)
    (case k6 => k_is)
    (case a7 => k_is)
    (case l7 => k_is)
    (case c7 => k_is)
    (case k7 => k_is)
    (case a8 => k_is)
    (case l8 => k_is)
    (case c8 => k_is)
    (case k8 => k_is)
    (case a9 => k_is)
    (case l9 => k_is)
    (case c9 => k_is)
    (case k9 => k_is)
    (case a10 => k_is)
    (case l10 => k_is)
    (case c10 => k_is)
    (case k10 => k_is)
    (case a11 => k_is)
    (case l11 => k_is)
    (case c11 => k_is)
    (case k11 => k_is)
    (case z1 => k_is)
    (case z2 => k_is)
    (case z3 => k_is)
    (case b1 => k_is)
    (case b2 => k_is)
    (case b3 => k_is)
    (case b4 => k_is)
    (case b5 => k_is)
    (case b6 => k_is)
    (case b7 => k_is)
    (case b8 => k_is)
    (case b9 => k_is)
    (case b10 => k_is)

