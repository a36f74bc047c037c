
/- ZFrC: texts joined: FrC. -/
import Derived.Test.YtecgbelgoomneaaGreatZa
import Derived.Test.YtecgbelgoomneaaGreatZFrB
import Derived.Deep.QuietTactic
import Derived.BigQuiet
/- Whether levels may be; whether any vector may be, a frame may be, and is the same; an acknowledgement: by the document. -/
